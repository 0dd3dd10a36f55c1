package waymark_test

import (
	"math"
	"slices"
	"testing"

	"waymark/api"
	"waymark/waymark"
)

func put(t *testing.T, text string, group int) api.Change {
	t.Helper()
	return api.Change{Kind: api.Put, Route: route(t, text, group)}
}

func take(t *testing.T, text string) api.Change {
	t.Helper()
	return api.Change{Kind: api.Take, Route: route(t, text, 0)}
}

func mustBatch(t *testing.T, x *waymark.Table, l ...api.Change) {
	t.Helper()
	if n, e := x.Batch(l); n != len(l) || e != api.OK {
		t.Fatalf("Batch(%+v) = %d, %d, want %d, OK", l, n, e, len(l))
	}
}

// mustFail: the batch answers the number and the error, and nothing is changed.
func mustFail(t *testing.T, x *waymark.Table, number int, want api.Errno, l ...api.Change) {
	t.Helper()
	before := show(x)
	if n, e := x.Batch(l); n != number || e != want {
		t.Fatalf("Batch(%+v) = %d, %d, want %d, %d", l, n, e, number, want)
	}
	if show(x) != before {
		t.Fatalf("Batch(%+v) failed and made of %v this: %v", l, before, show(x))
	}
}

// tableOfRoutes: two routes of each family; there is room for two more.
func tableOfRoutes(t *testing.T) *waymark.Table {
	t.Helper()
	x := tableOfTwo(t, 6)
	mustPut(t, x, "10.0.0.0/8", 0)
	mustPut(t, x, "11.0.0.0/8", 1)
	mustPut(t, x, "1:0:0:0:0:0:0:0/16", 0)
	mustPut(t, x, "2:0:0:0:0:0:0:0/16", 1)
	return x
}

func TestP7DocumentExamples(t *testing.T) {
	x := tableOfTwo(t, 10)
	mustPut(t, x, "10.0.0.0/8", 0)
	mustFail(t, x, 1, api.ErrRoute, put(t, "12.0.0.0/8", 0), take(t, "13.0.0.0/8"))
	mustDump(t, x, api.V4, "10.0.0.0/8 0")
	checkTake(t, x, read(t, "12.0.0.0/8"), api.ErrRoute)
	checkDrop(t, x, 0, api.ErrBusy)
	checkDrop(t, x, 5, api.ErrGroup)
}

func TestP7EmptyList(t *testing.T) {
	for _, x := range []*waymark.Table{newTable(t, 1), tableOfRoutes(t)} {
		before := show(x)
		for _, l := range [][]api.Change{nil, {}, make([]api.Change, 5)[:0]} {
			if n, e := x.Batch(l); n != 0 || e != api.OK {
				t.Errorf("Batch of no changes = %d, %d, want 0, OK", n, e)
			}
		}
		if show(x) != before {
			t.Errorf("a batch of no changes made of %v this: %v", before, show(x))
		}
	}
}

func TestP7AllAreMade(t *testing.T) {
	x := tableOfRoutes(t)
	mustBatch(t, x, put(t, "9.0.0.0/8", 1))
	mustDump(t, x, api.V4, "9.0.0.0/8 1", "10.0.0.0/8 0", "11.0.0.0/8 1")
	mustBatch(t, x, take(t, "10.0.0.0/8"))
	mustDump(t, x, api.V4, "9.0.0.0/8 1", "11.0.0.0/8 1")
	mustBatch(t, x,
		put(t, "11.0.0.0/8", 0), take(t, "9.0.0.0/8"), put(t, "0.0.0.0/0", 1),
		put(t, "0:0:0:0:0:0:0:1/128", 1), take(t, "1:0:0:0:0:0:0:0/16"), put(t, "0:0:0:0:0:0:0:0/0", 0), put(t, "255.255.255.255/32", 0))
	mustDump(t, x, api.V4, "0.0.0.0/0 1", "11.0.0.0/8 0", "255.255.255.255/32 0")
	mustDump(t, x, api.V6, "0:0:0:0:0:0:0:0/0 0", "0:0:0:0:0:0:0:1/128 1", "2:0:0:0:0:0:0:0/16 1")
	// The limit still holds behind a batch.
	checkPut(t, x, route(t, "12.0.0.0/8", 0), api.ErrFull)
}

func TestP7ChangesAheadMakeOneGood(t *testing.T) {
	x := tableOfRoutes(t)
	// A Take of what was put ahead of it.
	mustBatch(t, x, put(t, "12.0.0.0/8", 0), take(t, "12.0.0.0/8"))
	mustDump(t, x, api.V4, "10.0.0.0/8 0", "11.0.0.0/8 1")
	// Room that a Take ahead of it made, also by the other family.
	mustBatch(t, x, put(t, "12.0.0.0/8", 0), put(t, "13.0.0.0/8", 0), take(t, "1:0:0:0:0:0:0:0/16"), put(t, "14.0.0.0/8", 1))
	mustDump(t, x, api.V4, "10.0.0.0/8 0", "11.0.0.0/8 1", "12.0.0.0/8 0", "13.0.0.0/8 0", "14.0.0.0/8 1")
	mustDump(t, x, api.V6, "2:0:0:0:0:0:0:0/16 1")
	// A full table: a prefix that is there, then a Put of one that was put ahead of it.
	mustBatch(t, x, put(t, "10.0.0.0/8", 1), take(t, "11.0.0.0/8"), put(t, "15.0.0.0/8", 0), put(t, "15.0.0.0/8", 1))
	mustDump(t, x, api.V4, "10.0.0.0/8 1", "12.0.0.0/8 0", "13.0.0.0/8 0", "14.0.0.0/8 1", "15.0.0.0/8 1")
	// The last one of a prefix holds.
	mustBatch(t, x, take(t, "10.0.0.0/8"), put(t, "10.0.0.0/8", 0), take(t, "10.0.0.0/8"), put(t, "10.0.0.0/8", 1), put(t, "10.0.0.0/8", 0))
	mustDump(t, x, api.V4, "10.0.0.0/8 0", "12.0.0.0/8 0", "13.0.0.0/8 0", "14.0.0.0/8 1", "15.0.0.0/8 1")
}

func TestP7ChangesAheadMakeOneWrong(t *testing.T) {
	x := tableOfRoutes(t)
	mustFail(t, x, 1, api.ErrRoute, take(t, "10.0.0.0/8"), take(t, "10.0.0.0/8"))
	mustFail(t, x, 3, api.ErrRoute, take(t, "10.0.0.0/8"), put(t, "10.0.0.0/8", 1), take(t, "10.0.0.0/8"), take(t, "10.0.0.0/8"), put(t, "10.0.0.0/8", 1))
	// The limit is met between two changes, though a Take behind them would make room.
	mustFail(t, x, 2, api.ErrFull, put(t, "12.0.0.0/8", 0), put(t, "3:0:0:0:0:0:0:0/16", 0), put(t, "14.0.0.0/8", 0), take(t, "10.0.0.0/8"))
	mustFail(t, x, 4, api.ErrFull, take(t, "10.0.0.0/8"), put(t, "12.0.0.0/8", 0), put(t, "13.0.0.0/8", 0), put(t, "14.0.0.0/8", 1), put(t, "10.0.0.0/8", 0))
}

func TestP7ErrorAtEveryPlace(t *testing.T) {
	good := []api.Change{
		put(t, "12.0.0.0/8", 1), take(t, "10.0.0.0/8"), put(t, "11.0.0.0/8", 0), put(t, "0:0:0:0:0:0:0:0/0", 0),
		take(t, "12.0.0.0/8"), put(t, "10.1.0.0/16", 1), take(t, "2:0:0:0:0:0:0:0/16"), put(t, "255.255.255.255/32", 0),
	}
	type wrongChange struct {
		c api.Change
		e api.Errno
	}
	wrong := []wrongChange{{take(t, "13.0.0.0/8"), api.ErrRoute}, {take(t, "10.0.0.0/9"), api.ErrRoute}}
	for _, g := range wrongGroups {
		wrong = append(wrong, wrongChange{put(t, "13.0.0.0/8", g), api.ErrGroup}, wrongChange{put(t, "11.0.0.0/8", g), api.ErrGroup})
	}
	for _, kind := range wrongKinds {
		wrong = append(wrong, wrongChange{api.Change{Kind: kind, Route: route(t, "13.0.0.0/8", 0)}, api.ErrKind})
	}
	for _, p := range wrongPrefixes() {
		for _, kind := range []int{api.Put, api.Take} {
			for _, g := range []int{0, -1} {
				wrong = append(wrong, wrongChange{api.Change{Kind: kind, Route: api.Route{Prefix: p.p, Group: g}}, p.e})
			}
		}
	}
	for _, w := range wrong {
		for place := range len(good) + 1 {
			x := tableOfRoutes(t)
			mustFail(t, x, place, w.e, slices.Insert(slices.Clone(good), place, w.c)...)
		}
	}
	x := tableOfRoutes(t)
	mustBatch(t, x, good...)
	mustDump(t, x, api.V4, "10.1.0.0/16 1", "11.0.0.0/8 0", "255.255.255.255/32 0")
	mustDump(t, x, api.V6, "0:0:0:0:0:0:0:0/0 0", "1:0:0:0:0:0:0:0/16 0")
}

var wrongKinds = []int{0, 3, 4, -1, -2, 1<<32 + 1, 1<<32 + 2, math.MaxInt, math.MinInt}

func TestP7FirstErrorIsTold(t *testing.T) {
	x := tableOfRoutes(t)
	none := api.Change{Kind: 3}
	mustFail(t, x, 0, api.ErrKind, none, take(t, "13.0.0.0/8"))
	mustFail(t, x, 0, api.ErrRoute, take(t, "13.0.0.0/8"), none)
	mustFail(t, x, 1, api.ErrGroup, put(t, "13.0.0.0/8", 0), put(t, "14.0.0.0/8", 2), none, take(t, "15.0.0.0/8"))
	mustFail(t, x, 2, api.ErrFamily, put(t, "13.0.0.0/8", 0), put(t, "14.0.0.0/8", 0), api.Change{Kind: api.Put}, none)
}

func TestP7OtherKindsWhateverTheRoute(t *testing.T) {
	x := tableOfRoutes(t)
	for _, kind := range wrongKinds {
		for _, p := range wrongPrefixes() {
			mustFail(t, x, 0, api.ErrKind, api.Change{Kind: kind, Route: api.Route{Prefix: p.p, Group: -1}})
		}
		mustFail(t, x, 0, api.ErrKind, api.Change{Kind: kind, Route: route(t, "10.0.0.0/8", 1)})
		mustFail(t, x, 1, api.ErrKind, take(t, "10.0.0.0/8"), api.Change{Kind: kind, Route: route(t, "10.0.0.0/8", -1)})
	}
}

func TestP7GroupOfATakeIsNotLookedAt(t *testing.T) {
	for _, g := range append([]int{0, 1}, wrongGroups...) {
		x := tableOfRoutes(t)
		mustBatch(t, x,
			api.Change{Kind: api.Take, Route: route(t, "10.0.0.0/8", g)},
			api.Change{Kind: api.Take, Route: route(t, "2:0:0:0:0:0:0:0/16", g)})
		mustDump(t, x, api.V4, "11.0.0.0/8 1")
		mustDump(t, x, api.V6, "1:0:0:0:0:0:0:0/16 0")
		mustFail(t, x, 0, api.ErrRoute, api.Change{Kind: api.Take, Route: route(t, "10.0.0.0/8", g)})
	}
}

func TestP7BusyGroups(t *testing.T) {
	x := tableOfTwo(t, 3)
	mustGroup(t, x, 2, 4)
	mustPut(t, x, "10.0.0.0/8", 0)
	// Of a batch that fails no group is busier, and none less so.
	mustFail(t, x, 3, api.ErrKind, take(t, "10.0.0.0/8"), put(t, "11.0.0.0/8", 1), put(t, "12.0.0.0/8", 2), api.Change{})
	checkDrop(t, x, 0, api.ErrBusy)
	checkDrop(t, x, 1, api.OK)
	mustBatch(t, x, put(t, "10.0.0.0/8", 2), put(t, "11.0.0.0/8", 0), take(t, "11.0.0.0/8"))
	checkDrop(t, x, 0, api.OK)
	checkDrop(t, x, 2, api.ErrBusy)
	mustFail(t, x, 1, api.ErrGroup, put(t, "10.0.0.0/8", 2), put(t, "11.0.0.0/8", 0))
	mustBatch(t, x, take(t, "10.0.0.0/8"))
	checkDrop(t, x, 2, api.OK)
}

func TestP7LimitIsMetWithinABatch(t *testing.T) {
	for _, limit := range []int{1, 2, 255, 256} {
		l := []api.Change{}
		for i := range limit + 3 {
			l = append(l, api.Change{Kind: api.Put, Route: api.Route{Prefix: host(i)}})
		}
		x := tableOfTwo(t, limit)
		mustFail(t, x, limit, api.ErrFull, l...)
		mustBatch(t, x, l[:limit]...)
		mustFail(t, x, limit, api.ErrFull, l...)
		mustFail(t, x, 0, api.ErrFull, l[limit:]...)
	}
}

func TestP7LongLists(t *testing.T) {
	x := tableOfTwo(t, 256)
	l := []api.Change{}
	for i := range 100000 {
		p := prefix(api.V4, 0, uint64(i/2%300), 32)
		l = append(l, api.Change{Kind: api.Put + i%2, Route: api.Route{Prefix: p, Group: i / 2 % 2}})
	}
	mustBatch(t, x, l...)
	mustDump(t, x, api.V4)
	mustBatch(t, x, append(l, put(t, "1.0.0.0/8", 1))...)
	mustDump(t, x, api.V4, "1.0.0.0/8 1")
	n := len(l)
	if got, e := x.Batch(append(l, take(t, "2.0.0.0/8"))); got != n || e != api.ErrRoute {
		t.Errorf("Batch of %d changes = %d, %d, want %d, ErrRoute", n+1, got, e, n)
	}
	mustDump(t, x, api.V4, "1.0.0.0/8 1")
}

func TestP7AsPutAndTakeOneByOne(t *testing.T) {
	l := []api.Change{}
	for i := range 60 {
		kind := api.Put
		if i%3 == 2 {
			kind = api.Take
		}
		l = append(l, api.Change{Kind: kind, Route: api.Route{Prefix: host(i * 7 % 11), Group: i % 2}})
	}
	for from := range l {
		one, all := tableOfTwo(t, 8), tableOfTwo(t, 8)
		number, want := 0, api.OK
		for want == api.OK && from+number < len(l) {
			c := l[from+number]
			if c.Kind == api.Put {
				want = one.Put(c.Route)
			} else {
				want = one.Take(c.Route.Prefix)
			}
			if want == api.OK {
				number++
			}
		}
		if n, e := all.Batch(l[from:]); n != number || e != want {
			t.Errorf("Batch from %d on = %d, %d, want %d, %d", from, n, e, number, want)
		}
		if want != api.OK {
			mustFail(t, all, number, want, l[from:]...)
			mustBatch(t, all, l[from:from+number]...)
		}
		if show(all) != show(one) {
			t.Errorf("Batch from %d on made %v, one by one they made %v", from, show(all), show(one))
		}
	}
}
