package waymark_test

import (
	"math"
	"strings"
	"testing"

	"waymark/api"
	"waymark/waymark"
)

func fullTable(t *testing.T) *waymark.Table {
	t.Helper()
	x := newTable(t, 256)
	for i := range api.MaxGroups {
		mustGroup(t, x, i, i, i+1, 65535)
	}
	return x
}

func TestP1WrongHopsGoAheadOfFull(t *testing.T) {
	x := fullTable(t)
	for _, hops := range [][]int{nil, {}, make([]int, 9), {-1}, {65536}} {
		if g, e := x.Group(hops); g != 0 || e != api.ErrHops {
			t.Errorf("Group(%v) of a full table = %d, %d, want 0, ErrHops", hops, g, e)
		}
	}
	if g, e := x.Group([]int{0}); g != 0 || e != api.ErrFull {
		t.Errorf("Group of a full table = %d, %d, want 0, ErrFull", g, e)
	}
}

// P1's order for Format: family, length, address.
func TestP1PrefixErrorsInTheirOrder(t *testing.T) {
	checkFormatError(t, prefix(5, 1, math.MaxUint64, 200), api.ErrFamily)
	checkFormatError(t, prefix(api.V4, 1, math.MaxUint64, 200), api.ErrLen)
	checkFormatError(t, prefix(api.V4, 1, math.MaxUint64, 20), api.ErrAddr)
	checkFormatError(t, prefix(api.V6, 1, math.MaxUint64, 200), api.ErrLen)
	checkFormatError(t, prefix(api.V6, 1, math.MaxUint64, 20), api.ErrAddr)
}

func TestP1ErrorsLeaveNothingBesideThem(t *testing.T) {
	if p, e := waymark.Parse("10.1.0.0/15"); p != (api.Prefix{}) || e != api.ErrText {
		t.Errorf("Parse = %+v, %d, want nothing, ErrText", p, e)
	}
	if x, e := waymark.New(257, 1, 1); x != nil || e != api.ErrLimit {
		t.Errorf("New = %v, %d, want nil, ErrLimit", x, e)
	}
	x := fullTable(t)
	if g, e := x.Group([]int{7, 65536}); g != 0 || e != api.ErrHops {
		t.Errorf("Group = %d, %d, want 0, ErrHops", g, e)
	}
	if g, e := x.Group([]int{7}); g != 0 || e != api.ErrFull {
		t.Errorf("Group = %d, %d, want 0, ErrFull", g, e)
	}
	if l, e := x.Hops(32); len(l) != 0 || e != api.ErrGroup {
		t.Errorf("Hops = %v, %d, want none, ErrGroup", l, e)
	}
	mustPut(t, x, "10.0.0.0/8", 3)
	mustPut(t, x, "0:0:0:0:0:0:0:0/0", 3)
	for _, family := range wrongFamilies {
		if l, e := x.Dump(family); len(l) != 0 || e != api.ErrFamily {
			t.Errorf("Dump(%d) = %v, %d, want none, ErrFamily", family, l, e)
		}
		if l, e := x.Lengths(family); len(l) != 0 || e != api.ErrFamily {
			t.Errorf("Lengths(%d) = %v, %d, want none, ErrFamily", family, l, e)
		}
		checkEntriesError(t, x, family, 8, api.ErrFamily)
		checkLookupError(t, x, api.Addr{Family: family}, api.ErrFamily)
		checkPickError(t, x, api.Addr{Family: family}, 1, api.ErrFamily)
	}
	checkEntriesError(t, x, api.V4, 33, api.ErrLen)
	checkEntriesError(t, x, api.V6, 129, api.ErrLen)
	checkLookupError(t, x, api.Addr{Family: api.V4, Lo: 1 << 32}, api.ErrAddr)
	checkPickError(t, x, api.Addr{Family: api.V4, Lo: 1 << 32}, 1, api.ErrAddr)
	checkPickError(t, x, at(t, "11.0.0.0"), 1, api.ErrRoute)
}

// P1's order for Pick: family, address, route.
func TestP1PickErrorsInTheirOrder(t *testing.T) {
	for _, x := range []*waymark.Table{tableOfTwo(t, 1), tableOfHops(t, 1, 5, 6)} {
		checkPickError(t, x, api.Addr{Family: 5, Hi: 1, Lo: math.MaxUint64}, 1, api.ErrFamily)
		checkPickError(t, x, api.Addr{Family: api.V4, Hi: 1, Lo: math.MaxUint64}, 1, api.ErrAddr)
	}
	checkPickError(t, tableOfTwo(t, 1), api.Addr{Family: api.V6, Hi: 1, Lo: math.MaxUint64}, 1, api.ErrRoute)
}

// Where no reason is named, no hop told or nothing goes out, there are noughts, though the packet's route has a hop.
func TestP1VerdictsLeaveNothingBesideThem(t *testing.T) {
	x := forwarder(t, 1)
	for rules := range 512 {
		v := x.Forward(faulty(rules))
		if (v.Reason == api.NoReason) != (v.Kind == api.Delivered || v.Kind == api.Forwarded) {
			t.Errorf("the reason of %+v", v)
		}
		if v.Kind == api.Forwarded && v.Hop != 7 || v.Kind != api.Forwarded && v.Hop != 0 {
			t.Errorf("the hop of %+v", v)
		}
		if (v.Out == "") != (v.Kind == api.Dropped) {
			t.Errorf("what goes out of %+v", v)
		}
	}
	for i, p := range lost() {
		p.part = 1
		if v := x.Forward(p.made()); v != dropped([]int{api.NoRoute, api.Expired}[i]) {
			t.Errorf("of a part: %+v", v)
		}
	}
}

func TestP1QuestionErrorsChangeNothing(t *testing.T) {
	for _, x := range []*waymark.Table{tableOfTwo(t, 1), tableOfDocument(t), tableOfBoth(t)} {
		before := show(x)
		for _, family := range wrongFamilies {
			x.Lengths(family)
			checkEntriesError(t, x, family, -1, api.ErrFamily)
			checkLookupError(t, x, api.Addr{Family: family, Hi: 1, Lo: 1 << 32}, api.ErrFamily)
		}
		for _, n := range wrongLengths6 {
			checkEntriesError(t, x, api.V4, n, api.ErrLen)
			checkEntriesError(t, x, api.V6, n, api.ErrLen)
		}
		checkLookupError(t, x, api.Addr{Family: api.V4, Hi: 1}, api.ErrAddr)
		checkPickError(t, x, api.Addr{Family: 5}, 1, api.ErrFamily)
		checkPickError(t, x, api.Addr{Family: api.V4, Hi: 1}, 1, api.ErrAddr)
		for rules := range 512 {
			x.Forward(faulty(rules))
		}
		if now := show(x); now != before {
			t.Errorf("questions with errors made of %v this: %v", before, now)
		}
	}
}

func TestP1RouteErrorsInTheirOrder(t *testing.T) {
	full := tableOfTwo(t, 1)
	mustPut(t, full, "10.0.0.0/8", 0)
	for _, c := range []struct {
		r         api.Route
		put, take api.Errno
	}{
		{api.Route{Prefix: prefix(5, 1, 1, 200), Group: -1}, api.ErrFamily, api.ErrFamily},
		{api.Route{Prefix: prefix(api.V4, 1, 1, 200), Group: -1}, api.ErrLen, api.ErrLen},
		{api.Route{Prefix: prefix(api.V4, 1, 1, 20), Group: -1}, api.ErrAddr, api.ErrAddr},
		{api.Route{Prefix: prefix(api.V4, 0, 0, 20), Group: -1}, api.ErrGroup, api.ErrRoute},
		{api.Route{Prefix: prefix(api.V4, 0, 0, 20), Group: 0}, api.ErrFull, api.ErrRoute},
	} {
		checkPut(t, full, c.r, c.put)
		checkTake(t, full, c.r.Prefix, c.take)
		mustFail(t, full, 0, c.put, api.Change{Kind: api.Put, Route: c.r})
		mustFail(t, full, 0, c.take, api.Change{Kind: api.Take, Route: c.r})
		mustFail(t, full, 0, api.ErrKind, api.Change{Kind: 3, Route: c.r})
	}
}

func TestP1RouteErrorsChangeNothing(t *testing.T) {
	part, full := tableOfRoutes(t), tableOfTwo(t, 2)
	mustPut(t, full, "10.0.0.0/8", 0)
	mustPut(t, full, "1:0:0:0:0:0:0:0/16", 1)
	for _, x := range []*waymark.Table{tableOfTwo(t, 1), part, full} {
		before := show(x)
		for _, c := range wrongPrefixes() {
			checkPut(t, x, api.Route{Prefix: c.p}, c.e)
			checkTake(t, x, c.p, c.e)
		}
		for _, g := range wrongGroups {
			checkPut(t, x, route(t, "10.0.0.0/8", g), api.ErrGroup)
			checkPut(t, x, route(t, "99.0.0.0/8", g), api.ErrGroup)
		}
		checkTake(t, x, read(t, "99.0.0.0/8"), api.ErrRoute)
		for _, family := range wrongFamilies {
			x.Dump(family)
		}
		mustFail(t, x, 1, api.ErrKind, put(t, "10.0.0.0/8", 1), api.Change{})
		if show(x) != before {
			t.Errorf("calls with errors made of %v this: %v", before, show(x))
		}
	}
	before := show(full)
	checkPut(t, full, route(t, "99.0.0.0/8", 0), api.ErrFull)
	checkDrop(t, full, 0, api.ErrBusy)
	checkDrop(t, full, 1, api.ErrBusy)
	if show(full) != before {
		t.Errorf("calls of a full table made of %v this: %v", before, show(full))
	}
	// Nor is room lost or won by calls with errors.
	mustPut(t, part, "12.0.0.0/8", 0)
	mustPut(t, part, "13.0.0.0/8", 0)
	checkPut(t, part, route(t, "14.0.0.0/8", 0), api.ErrFull)
}

func TestP1ErrorsChangeNothing(t *testing.T) {
	full := fullTable(t)
	part := newTable(t, 1)
	for i := range 6 {
		mustGroup(t, part, i, 10+i, i)
	}
	mustDrop(t, part, 3)
	for _, x := range []*waymark.Table{full, part, newTable(t, 1)} {
		before := show(x)
		for _, hops := range [][]int{nil, {}, make([]int, 9), make([]int, 5000), {-1}, {1, 65536}, {math.MinInt}, {1, 2, 3, 4, 5, 6, 7, math.MaxInt}} {
			if _, e := x.Group(hops); e == api.OK {
				t.Errorf("Group of %d wrong hops is OK", len(hops))
			}
		}
		for _, g := range []int{-1, 32, 33, math.MaxInt, math.MinInt} {
			x.Hops(g)
			if e := x.Drop(g); e == api.OK {
				t.Errorf("Drop(%d) is OK", g)
			}
		}
		if show(x) != before {
			t.Errorf("calls with errors made of %v this: %v", before, show(x))
		}
	}
	before := show(full)
	full.Group([]int{1})
	if show(full) != before {
		t.Errorf("a group too many made of %v this: %v", before, show(full))
	}
	mustGroup(t, part, 3, 1)
	mustGroup(t, part, 6, 1)
}

var (
	numbers = []int{math.MinInt, math.MinInt + 1, -1 << 32, -129, -64, -1, 0, 1, 2, 4, 6, 31, 32, 33, 63, 64, 65, 127, 128, 129, 1 << 32, math.MaxInt - 1, math.MaxInt}
	words   = []uint64{0, 1, 1 << 31, 1<<32 - 1, 1 << 32, 1 << 63, math.MaxUint64}
)

func TestP1EveryRouteCallEnds(t *testing.T) {
	for _, limit := range []int{1, 20, 256} {
		x := tableOfTwo(t, limit)
		for _, family := range numbers {
			x.Dump(family)
			x.Lengths(family)
			for _, length := range numbers {
				x.Entries(family, length)
				for _, w := range words {
					x.Lookup(api.Addr{Family: family, Hi: w, Lo: w})
					x.Lookup(api.Addr{Family: family, Lo: w})
					x.Pick(api.Addr{Family: family, Hi: w, Lo: w}, w)
					x.Pick(api.Addr{Family: family, Lo: w}, ^w)
					for _, g := range []int{math.MinInt, -1, 0, 1, 2, 31, 32, math.MaxInt} {
						r := api.Route{Prefix: prefix(family, w, w, length), Group: g}
						x.Put(r)
						r.Prefix.Addr.Hi = 0
						x.Put(r)
						x.Batch([]api.Change{{Kind: g, Route: r}, {Kind: api.Take, Route: r}, {Kind: length, Route: r}})
					}
					x.Take(prefix(family, w, w, length))
				}
			}
		}
		for _, n := range []int{0, 1, 257, 1 << 20} {
			x.Batch(make([]api.Change, n))
		}
	}
}

func TestP1EveryCallEnds(t *testing.T) {
	texts := []string{"", "\x00", "\xff\xfe", strings.Repeat("0", 1<<22), strings.Repeat("ffff:", 1<<20), strings.Repeat("1.", 1<<20), strings.Repeat("/", 1<<22)}
	for _, text := range texts {
		if p, e := waymark.Parse(text); p != (api.Prefix{}) || e != api.ErrText {
			t.Errorf("Parse(%.40q) = %+v, %d, want nothing, ErrText", text, p, e)
		}
	}
	for _, n := range numbers {
		for _, family := range numbers {
			for _, w := range words {
				waymark.Format(prefix(family, w, 0, n))
				waymark.Format(prefix(family, 0, w, n))
				waymark.Format(prefix(family, w, w, n))
			}
		}
		for _, w := range words {
			waymark.New(n, w, uint32(w))
		}
	}
	x := newTable(t, 1)
	for _, n := range numbers {
		x.Group([]int{n})
		x.Group([]int{0, n, 0})
		x.Hops(n)
		x.Drop(n)
	}
	for _, n := range []int{0, 1, 7, 8, 9, 1000, 1 << 22} {
		x.Group(make([]int, n))
	}
	for _, y := range []*waymark.Table{x, newTable(t, 1), tableOfHops(t, math.MaxUint64, 0, 1)} {
		for _, text := range texts {
			y.Forward(text)
			y.Forward(common.made() + text)
			y.Forward("\x45" + text)
		}
	}
}
