package waymark_test

import (
	"fmt"
	"math/rand"
	"slices"
	"strings"
	"testing"

	"waymark/api"
	"waymark/waymark"
)

// fill writes over a list and all its spare room.
func fill[T any](l []T, one T) {
	l = l[:cap(l)]
	for i := range l {
		l[i] = one
	}
}

func scribble(l []int) {
	fill(l, -77)
}

func TestP2ListsHandedInAreNotWrittenInto(t *testing.T) {
	x := newTable(t, 1)
	for n := range 12 {
		room := []int{5, 1, 4, 1, 3, 9, 2, 6, 5, 3, 5, 8, 9, 7}
		before := slices.Clone(room)
		x.Group(room[:n])
		if !slices.Equal(room, before) {
			t.Errorf("Group of %d hops made of %v this: %v", n, before, room)
		}
	}
	bad := []int{3, 70000, 1, 2}
	x.Group(bad[:2])
	if !slices.Equal(bad, []int{3, 70000, 1, 2}) {
		t.Errorf("Group with an error made this of its list: %v", bad)
	}
	full := fullTable(t)
	in := []int{3, 7, 1, 2}
	full.Group(in[:2])
	if !slices.Equal(in, []int{3, 7, 1, 2}) {
		t.Errorf("Group of a full table made this of its list: %v", in)
	}
}

func TestP2ListsHandedInAreNotKept(t *testing.T) {
	x := newTable(t, 1)
	in := []int{1, 2, 3, 4, 5, 6, 7, 8}
	for n := 1; n <= 8; n++ {
		mustGroup(t, x, n-1, in[:n]...)
	}
	scribble(in)
	for n := 1; n <= 8; n++ {
		mustHops(t, x, n-1, []int{1, 2, 3, 4, 5, 6, 7, 8}[:n]...)
	}
}

func TestP2ListsThatComeOutAreFresh(t *testing.T) {
	x := newTable(t, 1)
	in := []int{1, 2, 3, 4, 5, 6, 7, 8}
	for n := 1; n <= 8; n++ {
		mustGroup(t, x, n-1, in[:n]...)
	}
	for n := 1; n <= 8; n++ {
		first, _ := x.Hops(n - 1)
		second, _ := x.Hops(n - 1)
		scribble(first)
		if !slices.Equal(second, in[:n]) {
			t.Errorf("writing into one list of hops made of another: %v", second)
		}
		scribble(second)
	}
	for n := 1; n <= 8; n++ {
		mustHops(t, x, n-1, in[:n]...)
	}
	if !slices.Equal(in, []int{1, 2, 3, 4, 5, 6, 7, 8}) {
		t.Errorf("writing into lists that came out made of the list handed in: %v", in)
	}
}

func TestP2EmptyListsAreFreshToo(t *testing.T) {
	x := newTable(t, 1)
	l, _ := x.Hops(0)
	scribble(l)
	l = append(l, 9)
	if again, e := x.Hops(0); len(again) != 0 || e != api.ErrGroup || len(l) != 1 {
		t.Errorf("Hops of no group = %v, %d", again, e)
	}
	mustGroup(t, x, 0, 4)
	mustHops(t, x, 0, 4)
}

func TestP2NoLaterCallWritesIntoAList(t *testing.T) {
	x := newTable(t, 1)
	mustGroup(t, x, 0, 1, 2, 3)
	mustGroup(t, x, 1, 4, 5)
	l, _ := x.Hops(0)
	room := l[:cap(l)]
	before := slices.Clone(room)
	mustDrop(t, x, 0)
	mustGroup(t, x, 0, 9, 9, 9, 9, 9, 9, 9, 9)
	x.Hops(0)
	x.Hops(1)
	mustDrop(t, x, 1)
	mustGroup(t, x, 1, 8, 8, 8)
	mustDrop(t, x, 0)
	mustDrop(t, x, 1)
	if !slices.Equal(room, before) {
		t.Errorf("later calls made of %v this: %v", before, room)
	}
}

// noRoute: what no table holds.
var noRoute = api.Route{Prefix: prefix(-77, 77, 77, -77), Group: -77}

func scribbleRoutes(l []api.Route) {
	fill(l, noRoute)
}

func scribbleEntries(l []api.Entry) {
	fill(l, api.Entry{Addr: noRoute.Prefix.Addr, Group: -77, Marks: -77, Best: -77})
}

func TestP2ChangesHandedInAreNotWrittenInto(t *testing.T) {
	// The first four are good, the one behind them is not.
	room := []api.Change{put(t, "12.0.0.0/8", 1), take(t, "10.0.0.0/8"), put(t, "11.0.0.0/8", 0), put(t, "10.0.0.0/8", 1), {Kind: 9}, {}, {}, {}}
	before := slices.Clone(room)
	for n := range len(room) + 1 {
		x := tableOfRoutes(t)
		x.Batch(room[:n])
		mustPut(t, x, "13.0.0.0/8", 0)
		x.Take(read(t, "11.0.0.0/8"))
		x.Batch(room[:n])
		if !slices.Equal(room, before) {
			t.Errorf("Batch of %d changes made of %v this: %v", n, before, room)
		}
	}
}

func TestP2ChangesHandedInAreNotKept(t *testing.T) {
	x := tableOfTwo(t, 10)
	l := []api.Change{put(t, "12.0.0.0/8", 1), put(t, "10.0.0.0/8", 0), put(t, "1:0:0:0:0:0:0:0/16", 1)}
	mustBatch(t, x, l...)
	for i := range l {
		l[i] = api.Change{Kind: 9, Route: noRoute}
	}
	mustDump(t, x, api.V4, "10.0.0.0/8 0", "12.0.0.0/8 1")
	mustDump(t, x, api.V6, "1:0:0:0:0:0:0:0/16 1")
}

func TestP2DumpsAreFresh(t *testing.T) {
	for n := range 40 {
		x := tableOfTwo(t, 50)
		for i := range n {
			checkPut(t, x, api.Route{Prefix: host(i), Group: i % 2}, api.OK)
		}
		before := show(x)
		for _, family := range []int{api.V4, api.V6} {
			first, _ := x.Dump(family)
			second, _ := x.Dump(family)
			want := slices.Clone(second)
			scribbleRoutes(first)
			if !slices.Equal(second, want) {
				t.Errorf("writing into one list of routes made of another: %v", second)
			}
			scribbleRoutes(second)
			scribbleRoutes(append(second, noRoute))
		}
		if show(x) != before {
			t.Errorf("writing into lists of routes made of %v this: %v", before, show(x))
		}
		// What was written behind a list does not come out as a route, nor take its room.
		for i := n; i < 50; i++ {
			checkPut(t, x, api.Route{Prefix: host(i), Group: i % 2}, api.OK)
		}
		again := tableOfTwo(t, 50)
		for i := range 50 {
			checkPut(t, again, api.Route{Prefix: host(i), Group: i % 2}, api.OK)
		}
		if show(x) != show(again) {
			t.Errorf("%d routes, then 50: %v, want %v", n, show(x), show(again))
		}
	}
}

func TestP2NoLaterCallWritesIntoADump(t *testing.T) {
	x := tableOfRoutes(t)
	for _, family := range []int{api.V4, api.V6} {
		l, _ := x.Dump(family)
		room := l[:cap(l)]
		before := slices.Clone(room)
		y := tableOfRoutes(t)
		mustPut(t, x, "9.0.0.0/8", 1)
		mustPut(t, x, "0:0:0:0:0:0:0:0/0", 1)
		mustPut(t, x, "10.0.0.0/8", 1)
		mustPut(t, x, "1:0:0:0:0:0:0:0/16", 1)
		mustTake(t, x, "9.0.0.0/8")
		mustTake(t, x, "0:0:0:0:0:0:0:0/0")
		mustBatch(t, x, take(t, "10.0.0.0/8"), put(t, "10.0.0.0/8", 0), put(t, "1:0:0:0:0:0:0:0/16", 0), put(t, "3:0:0:0:0:0:0:0/16", 0), take(t, "3:0:0:0:0:0:0:0/16"))
		mustFail(t, x, 2, api.ErrKind, put(t, "8.0.0.0/8", 0), take(t, "1:0:0:0:0:0:0:0/16"), api.Change{})
		x.Dump(api.V4)
		x.Dump(api.V6)
		if !slices.Equal(room, before) {
			t.Errorf("later calls made of %v this: %v", before, room)
		}
		if show(x) != show(y) {
			t.Errorf("the table is %v, want %v", show(x), show(y))
		}
	}
}

// askAndScribble asks all questions of a family, and writes over all lists that come out and behind them.
func askAndScribble(x *waymark.Table, family int) {
	for range 2 {
		for n := range widthOf(family) + 1 {
			l, _ := x.Entries(family, n)
			scribbleEntries(l)
			scribbleEntries(append(l, api.Entry{}))
		}
		routes, _ := x.Dump(family)
		for _, r := range append(routes, api.Route{Prefix: api.Prefix{Addr: uppermost(family)}}) {
			f, _ := x.Lookup(r.Prefix.Addr)
			scribble(f.Asked)
			scribble(append(f.Asked, 1))
			x.Pick(r.Prefix.Addr, uint64(r.Group))
			p := common
			p.target = uint32(r.Prefix.Addr.Lo)
			x.Forward(p.made())
		}
		l, _ := x.Lengths(family)
		scribble(l)
		scribble(append(l, 1))
	}
}

func TestP2AnswersToQuestionsAreFresh(t *testing.T) {
	for _, x := range []*waymark.Table{tableOfTwo(t, 1), tableOfRoutes(t), tableOfDocument(t), tableOfSeven(t), tableOfBoth(t)} {
		before := show(x)
		for _, family := range []int{api.V4, api.V6} {
			lengths, _ := x.Lengths(family)
			f, _ := x.Lookup(uppermost(family))
			entries := [][]api.Entry{}
			for _, n := range lengths {
				l, _ := x.Entries(family, n)
				entries = append(entries, l)
			}
			told := fmt.Sprint(lengths, f, entries)
			askAndScribble(x, family)
			if now := fmt.Sprint(lengths, f, entries); now != told {
				t.Errorf("writing into later answers made of %v this: %v", told, now)
			}
			scribble(lengths)
			scribble(f.Asked)
			if now := fmt.Sprint(entries); !strings.HasSuffix(told, now) {
				t.Errorf("writing into lengths made of %v this: %v", told, now)
			}
			for _, l := range entries {
				scribbleEntries(l)
			}
		}
		if now := show(x); now != before {
			t.Errorf("writing into answers made of %v this: %v", before, now)
		}
	}
}

func TestP2NoLaterCallWritesIntoAnswers(t *testing.T) {
	x := tableOfBoth(t)
	for _, family := range []int{api.V4, api.V6} {
		lengths, _ := x.Lengths(family)
		entries, _ := x.Entries(family, lengths[len(lengths)/2])
		f, _ := x.Lookup(uppermost(family))
		lengths, entries, f.Asked = lengths[:cap(lengths)], entries[:cap(entries)], f.Asked[:cap(f.Asked)]
		before := fmt.Sprint(lengths, entries, f)
		mustPut(t, x, "10.1.0.0/16", 3)
		mustPut(t, x, "a01:0:0:0:0:0:0:0/16", 3)
		mustPut(t, x, "10.1.2.4/30", 0)
		mustPut(t, x, "a01:0:0:0:0:0:0:4/126", 0)
		askAndScribble(x, api.V4)
		askAndScribble(x, api.V6)
		mustBatch(t, x, take(t, "10.1.2.4/30"), take(t, "a01:0:0:0:0:0:0:4/126"))
		mustFail(t, x, 2, api.ErrKind, take(t, "10.0.0.0/8"), take(t, "a00:0:0:0:0:0:0:0/8"), api.Change{})
		if now := fmt.Sprint(lengths, entries, f); now != before {
			t.Errorf("later calls made of %v this: %v", before, now)
		}
	}
}

// Two tables get the same changes; one is asked all the while, the other at the end alone.
func TestP2QuestionsChangeNothing(t *testing.T) {
	r := rand.New(rand.NewSource(2))
	for range 20 {
		asked, still := tableOfTwo(t, 30), tableOfTwo(t, 30)
		for i := range 60 {
			family := api.V4 + r.Intn(2)*2
			one := api.Route{Prefix: drawnPrefix(r, family, []int{0, 3, 8, 9, 20, 31, 32}), Group: r.Intn(2)}
			other := api.Route{Prefix: drawnPrefix(r, family, []int{0, 3, 8}), Group: r.Intn(2)}
			l := []api.Change{{Kind: api.Put, Route: one}, {Kind: api.Put + i%2, Route: other}}
			number, e := asked.Batch(l)
			if n, f := still.Batch(l); n != number || f != e {
				t.Fatalf("Batch = %d, %d, and in the table that was asked %d, %d", n, f, number, e)
			}
			first := show(asked)
			if again := show(asked); again != first {
				t.Fatalf("asked twice: %v, then %v", first, again)
			}
			askAndScribble(asked, family)
			asked.Lookup(api.Addr{Family: 5})
			asked.Entries(family, 999)
			asked.Lengths(5)
			asked.Pick(api.Addr{Family: 5}, 1)
			asked.Forward("no packet")
		}
		if show(asked) != show(still) {
			t.Fatalf("of a table that was asked: %v, of one that was not: %v", show(asked), show(still))
		}
	}
}

// Tables of other seeds and own addresses get the same calls by turns; then each tells what it tells when it is alone.
func TestP2SeedsAndOwnAddressesAreATablesOwn(t *testing.T) {
	r := rand.New(rand.NewSource(15))
	packets, picked := []string{}, []uint64{}
	for range 300 {
		packets = append(packets, drawnPacket(r))
		p := lost()[r.Intn(2)]
		p.target, p.id = p.target+uint32(r.Intn(2))<<24, r.Intn(65536)
		packets = append(packets, p.made())
		picked = append(picked, r.Uint64())
	}
	ask := func(x *waymark.Table, i int) string {
		h, e := x.Pick(at(t, "11.2.3.4"), picked[i])
		return fmt.Sprintln(h, e, x.Forward(packets[2*i]), x.Forward(packets[2*i+1]))
	}
	seeded := func(n uint64) *waymark.Table {
		x := seededTable(t, n*0x9e3779b97f4a7c15, uint32(n*0x01010101))
		mustGroup(t, x, 0, 7)
		mustGroup(t, x, 1, 0, 1, 2, 3, 4, 5, 6, 7)
		mustPut(t, x, "10.0.0.0/8", 0)
		mustPut(t, x, "11.0.0.0/8", 1)
		return x
	}
	tables, together := []*waymark.Table{seeded(0), seeded(1), seeded(2), seeded(3)}, [4]string{}
	for i := range picked {
		for n, x := range tables {
			together[n] += ask(x, i)
		}
	}
	for n, told := range together {
		alone, x := "", seeded(uint64(n))
		for i := range picked {
			alone += ask(x, i)
		}
		if alone != told {
			t.Errorf("table %d tells alone %q, beside others %q", n, alone, told)
		}
		if n > 0 && told == together[0] {
			t.Errorf("the tables 0 and %d tell the same", n)
		}
	}
}

// A packet that is asked twice, or behind many others, or behind none, has one verdict.
func TestP2VerdictsHangOnNoOtherPackets(t *testing.T) {
	r := rand.New(rand.NewSource(16))
	x := forwarder(t, 9)
	packets, told := []string{}, []api.Verdict{}
	for range 2000 {
		s := drawnPacket(r)
		packets = append(packets, s)
		told = append(told, x.Forward(s))
		x.mustJudge(t, s, told[len(told)-1])
	}
	for _, i := range r.Perm(len(packets)) {
		x.mustJudge(t, packets[i], told[i])
		forwarder(t, 9).mustJudge(t, packets[i], told[i])
	}
	for range 3 {
		for _, flow := range flows {
			mustPick(t, x.Table, "11.2.3.4", flow, []int{1, 2, 3, 0, 5, 65535, 7, 8}[mixedByHand(flow^9)%8])
		}
	}
}

func TestP2RoutesOfTablesDoNotTouchEachOther(t *testing.T) {
	one, two := tableOfTwo(t, 2), tableOfTwo(t, 256)
	mustPut(t, one, "10.0.0.0/8", 0)
	mustDump(t, two, api.V4)
	mustPut(t, two, "10.0.0.0/8", 1)
	mustBatch(t, one, put(t, "11.0.0.0/8", 0), take(t, "10.0.0.0/8"))
	mustDump(t, two, api.V4, "10.0.0.0/8 1")
	mustTake(t, two, "10.0.0.0/8")
	mustDump(t, one, api.V4, "11.0.0.0/8 0")
	checkDrop(t, two, 0, api.OK)
	checkDrop(t, one, 0, api.ErrBusy)
}

func TestP2TablesDoNotTouchEachOther(t *testing.T) {
	one, two := newTable(t, 1), newTable(t, 256)
	mustGroup(t, one, 0, 1)
	mustGroup(t, one, 1, 2)
	mustHaveNoGroup(t, two, 0)
	mustGroup(t, two, 0, 3, 3)
	mustDrop(t, one, 0)
	mustHops(t, two, 0, 3, 3)
	mustHops(t, one, 1, 2)
	mustHaveNoGroup(t, two, 1)
}

func TestP2SameCallsSameAnswers(t *testing.T) {
	run := func(x *waymark.Table) string {
		for i := range 40 {
			x.Group([]int{i, i * i})
			if i%3 == 0 {
				x.Drop(i / 2)
			}
			x.Put(api.Route{Prefix: host(i), Group: i % 5})
			x.Take(host(i / 3))
			x.Batch([]api.Change{{Kind: api.Put, Route: api.Route{Prefix: host(i + 50), Group: 1}}, {Kind: api.Take, Route: api.Route{Prefix: host(i / 4)}}})
		}
		return show(x)
	}
	first := run(newTable(t, 20))
	for range 5 {
		if again := run(newTable(t, 20)); again != first {
			t.Errorf("the same calls answered %v, then %v", first, again)
		}
	}
	for range 5 {
		if s, e := waymark.Format(prefix(api.V4, 0, 0x0a010000, 16)); s != "10.1.0.0/16" || e != api.OK {
			t.Errorf("Format = %q, %d", s, e)
		}
	}
}
