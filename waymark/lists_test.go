package waymark_test

import (
	"slices"
	"testing"

	"waymark/api"
	"waymark/waymark"
)

// scribble writes over a list and all its spare room.
func scribble(l []int) {
	l = l[:cap(l)]
	for i := range l {
		l[i] = -77
	}
}

func TestP2ListsHandedInAreNotWrittenInto(t *testing.T) {
	x := newTable(t, 1)
	for n := range 12 {
		room := []int{5, 1, 4, 1, 3, 9, 2, 6, 5, 3, 5, 8, 9, 7}
		before := slices.Clone(room)
		x.Group(room[:n])
		if !slices.Equal(room, before) {
			t.Errorf("Group of %d hops made of %v this: %v", n, before, room)
		}
	}
	bad := []int{3, 70000, 1, 2}
	x.Group(bad[:2])
	if !slices.Equal(bad, []int{3, 70000, 1, 2}) {
		t.Errorf("Group with an error made this of its list: %v", bad)
	}
	full := fullTable(t)
	in := []int{3, 7, 1, 2}
	full.Group(in[:2])
	if !slices.Equal(in, []int{3, 7, 1, 2}) {
		t.Errorf("Group of a full table made this of its list: %v", in)
	}
}

func TestP2ListsHandedInAreNotKept(t *testing.T) {
	x := newTable(t, 1)
	in := []int{1, 2, 3, 4, 5, 6, 7, 8}
	for n := 1; n <= 8; n++ {
		mustGroup(t, x, n-1, in[:n]...)
	}
	scribble(in)
	for n := 1; n <= 8; n++ {
		mustHops(t, x, n-1, []int{1, 2, 3, 4, 5, 6, 7, 8}[:n]...)
	}
}

func TestP2ListsThatComeOutAreFresh(t *testing.T) {
	x := newTable(t, 1)
	in := []int{1, 2, 3, 4, 5, 6, 7, 8}
	for n := 1; n <= 8; n++ {
		mustGroup(t, x, n-1, in[:n]...)
	}
	for n := 1; n <= 8; n++ {
		first, _ := x.Hops(n - 1)
		second, _ := x.Hops(n - 1)
		scribble(first)
		if !slices.Equal(second, in[:n]) {
			t.Errorf("writing into one list of hops made of another: %v", second)
		}
		scribble(second)
	}
	for n := 1; n <= 8; n++ {
		mustHops(t, x, n-1, in[:n]...)
	}
	if !slices.Equal(in, []int{1, 2, 3, 4, 5, 6, 7, 8}) {
		t.Errorf("writing into lists that came out made of the list handed in: %v", in)
	}
}

func TestP2EmptyListsAreFreshToo(t *testing.T) {
	x := newTable(t, 1)
	l, _ := x.Hops(0)
	scribble(l)
	l = append(l, 9)
	if again, e := x.Hops(0); len(again) != 0 || e != api.ErrGroup || len(l) != 1 {
		t.Errorf("Hops of no group = %v, %d", again, e)
	}
	mustGroup(t, x, 0, 4)
	mustHops(t, x, 0, 4)
}

func TestP2NoLaterCallWritesIntoAList(t *testing.T) {
	x := newTable(t, 1)
	mustGroup(t, x, 0, 1, 2, 3)
	mustGroup(t, x, 1, 4, 5)
	l, _ := x.Hops(0)
	room := l[:cap(l)]
	before := slices.Clone(room)
	mustDrop(t, x, 0)
	mustGroup(t, x, 0, 9, 9, 9, 9, 9, 9, 9, 9)
	x.Hops(0)
	x.Hops(1)
	mustDrop(t, x, 1)
	mustGroup(t, x, 1, 8, 8, 8)
	mustDrop(t, x, 0)
	mustDrop(t, x, 1)
	if !slices.Equal(room, before) {
		t.Errorf("later calls made of %v this: %v", before, room)
	}
}

// noRoute: what no table holds.
var noRoute = api.Route{Prefix: prefix(-77, 77, 77, -77), Group: -77}

// scribbleRoutes writes over a list and all its spare room.
func scribbleRoutes(l []api.Route) {
	l = l[:cap(l)]
	for i := range l {
		l[i] = noRoute
	}
}

func TestP2ChangesHandedInAreNotWrittenInto(t *testing.T) {
	// The first four are good, the one behind them is not.
	room := []api.Change{put(t, "12.0.0.0/8", 1), take(t, "10.0.0.0/8"), put(t, "11.0.0.0/8", 0), put(t, "10.0.0.0/8", 1), {Kind: 9}, {}, {}, {}}
	before := slices.Clone(room)
	for n := range len(room) + 1 {
		x := tableOfRoutes(t)
		x.Batch(room[:n])
		mustPut(t, x, "13.0.0.0/8", 0)
		x.Take(read(t, "11.0.0.0/8"))
		x.Batch(room[:n])
		if !slices.Equal(room, before) {
			t.Errorf("Batch of %d changes made of %v this: %v", n, before, room)
		}
	}
}

func TestP2ChangesHandedInAreNotKept(t *testing.T) {
	x := tableOfTwo(t, 10)
	l := []api.Change{put(t, "12.0.0.0/8", 1), put(t, "10.0.0.0/8", 0), put(t, "1:0:0:0:0:0:0:0/16", 1)}
	mustBatch(t, x, l...)
	for i := range l {
		l[i] = api.Change{Kind: 9, Route: noRoute}
	}
	mustDump(t, x, api.V4, "10.0.0.0/8 0", "12.0.0.0/8 1")
	mustDump(t, x, api.V6, "1:0:0:0:0:0:0:0/16 1")
}

func TestP2DumpsAreFresh(t *testing.T) {
	for n := range 40 {
		x := tableOfTwo(t, 50)
		for i := range n {
			checkPut(t, x, api.Route{Prefix: host(i), Group: i % 2}, api.OK)
		}
		before := show(x)
		for _, family := range []int{api.V4, api.V6} {
			first, _ := x.Dump(family)
			second, _ := x.Dump(family)
			want := slices.Clone(second)
			scribbleRoutes(first)
			if !slices.Equal(second, want) {
				t.Errorf("writing into one list of routes made of another: %v", second)
			}
			scribbleRoutes(second)
			scribbleRoutes(append(second, noRoute))
		}
		if show(x) != before {
			t.Errorf("writing into lists of routes made of %v this: %v", before, show(x))
		}
		// What was written behind a list does not come out as a route, nor take its room.
		for i := n; i < 50; i++ {
			checkPut(t, x, api.Route{Prefix: host(i), Group: i % 2}, api.OK)
		}
		again := tableOfTwo(t, 50)
		for i := range 50 {
			checkPut(t, again, api.Route{Prefix: host(i), Group: i % 2}, api.OK)
		}
		if show(x) != show(again) {
			t.Errorf("%d routes, then 50: %v, want %v", n, show(x), show(again))
		}
	}
}

func TestP2NoLaterCallWritesIntoADump(t *testing.T) {
	x := tableOfRoutes(t)
	for _, family := range []int{api.V4, api.V6} {
		l, _ := x.Dump(family)
		room := l[:cap(l)]
		before := slices.Clone(room)
		y := tableOfRoutes(t)
		mustPut(t, x, "9.0.0.0/8", 1)
		mustPut(t, x, "0:0:0:0:0:0:0:0/0", 1)
		mustPut(t, x, "10.0.0.0/8", 1)
		mustPut(t, x, "1:0:0:0:0:0:0:0/16", 1)
		mustTake(t, x, "9.0.0.0/8")
		mustTake(t, x, "0:0:0:0:0:0:0:0/0")
		mustBatch(t, x, take(t, "10.0.0.0/8"), put(t, "10.0.0.0/8", 0), put(t, "1:0:0:0:0:0:0:0/16", 0), put(t, "3:0:0:0:0:0:0:0/16", 0), take(t, "3:0:0:0:0:0:0:0/16"))
		mustFail(t, x, 2, api.ErrKind, put(t, "8.0.0.0/8", 0), take(t, "1:0:0:0:0:0:0:0/16"), api.Change{})
		x.Dump(api.V4)
		x.Dump(api.V6)
		if !slices.Equal(room, before) {
			t.Errorf("later calls made of %v this: %v", before, room)
		}
		if show(x) != show(y) {
			t.Errorf("the table is %v, want %v", show(x), show(y))
		}
	}
}

func TestP2RoutesOfTablesDoNotTouchEachOther(t *testing.T) {
	one, two := tableOfTwo(t, 2), tableOfTwo(t, 256)
	mustPut(t, one, "10.0.0.0/8", 0)
	mustDump(t, two, api.V4)
	mustPut(t, two, "10.0.0.0/8", 1)
	mustBatch(t, one, put(t, "11.0.0.0/8", 0), take(t, "10.0.0.0/8"))
	mustDump(t, two, api.V4, "10.0.0.0/8 1")
	mustTake(t, two, "10.0.0.0/8")
	mustDump(t, one, api.V4, "11.0.0.0/8 0")
	checkDrop(t, two, 0, api.OK)
	checkDrop(t, one, 0, api.ErrBusy)
}

func TestP2TablesDoNotTouchEachOther(t *testing.T) {
	one, two := newTable(t, 1), newTable(t, 256)
	mustGroup(t, one, 0, 1)
	mustGroup(t, one, 1, 2)
	mustHaveNoGroup(t, two, 0)
	mustGroup(t, two, 0, 3, 3)
	mustDrop(t, one, 0)
	mustHops(t, two, 0, 3, 3)
	mustHops(t, one, 1, 2)
	mustHaveNoGroup(t, two, 1)
}

func TestP2SameCallsSameAnswers(t *testing.T) {
	run := func(x *waymark.Table) string {
		for i := range 40 {
			x.Group([]int{i, i * i})
			if i%3 == 0 {
				x.Drop(i / 2)
			}
			x.Put(api.Route{Prefix: host(i), Group: i % 5})
			x.Take(host(i / 3))
			x.Batch([]api.Change{{Kind: api.Put, Route: api.Route{Prefix: host(i + 50), Group: 1}}, {Kind: api.Take, Route: api.Route{Prefix: host(i / 4)}}})
		}
		return show(x)
	}
	first := run(newTable(t, 20))
	for range 5 {
		if again := run(newTable(t, 20)); again != first {
			t.Errorf("the same calls answered %v, then %v", first, again)
		}
	}
	for range 5 {
		if s, e := waymark.Format(prefix(api.V4, 0, 0x0a010000, 16)); s != "10.1.0.0/16" || e != api.OK {
			t.Errorf("Format = %q, %d", s, e)
		}
	}
}
