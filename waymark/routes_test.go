package waymark_test

import (
	"fmt"
	"math"
	"slices"
	"testing"

	"waymark/api"
	"waymark/waymark"
)

// tableOfTwo: a table with the groups 0 and 1.
func tableOfTwo(t *testing.T, limit int) *waymark.Table {
	t.Helper()
	x := newTable(t, limit)
	mustGroup(t, x, 0, 7)
	mustGroup(t, x, 1, 8, 9)
	return x
}

func TestP6DocumentExamples(t *testing.T) {
	x := tableOfDocument(t)
	mustDump(t, x, api.V4, "0.0.0.0/0 1", "10.0.0.0/8 0", "10.1.0.0/16 1", "10.1.2.0/24 0")
	mustDump(t, x, api.V6)
	mustTake(t, x, "10.1.0.0/16")
	mustPut(t, x, "11.5.0.0/24", 1)
	mustDump(t, x, api.V4, "0.0.0.0/0 1", "10.0.0.0/8 0", "10.1.2.0/24 0", "11.5.0.0/24 1")
	checkDrop(t, x, 0, api.ErrBusy)
	checkDrop(t, x, 5, api.ErrGroup)
}

func TestP6PutGivesAnotherGroup(t *testing.T) {
	x := tableOfTwo(t, 4)
	texts := []string{"0:0:0:0:0:0:0:0/0", "10.0.0.0/8", "10.0.0.0/9"}
	for _, text := range texts {
		mustPut(t, x, text, 0)
	}
	for _, g := range []int{1, 1, 0, 1} {
		mustPut(t, x, "10.0.0.0/8", g)
		mustDump(t, x, api.V4, fmt.Sprint("10.0.0.0/8 ", g), "10.0.0.0/9 0")
		mustDump(t, x, api.V6, "0:0:0:0:0:0:0:0/0 0")
	}
	mustPut(t, x, "255.255.255.255/32", 0)
	checkPut(t, x, route(t, "9.0.0.0/8", 0), api.ErrFull)
	// The table is full: prefixes that are there still get another group.
	for _, text := range append(texts, "255.255.255.255/32") {
		mustPut(t, x, text, 1)
	}
	mustDump(t, x, api.V4, "10.0.0.0/8 1", "10.0.0.0/9 1", "255.255.255.255/32 1")
	mustDump(t, x, api.V6, "0:0:0:0:0:0:0:0/0 1")
	checkPut(t, x, route(t, "9.0.0.0/8", 0), api.ErrFull)
}

// host: the n-th of the prefixes that hold one address, of one family, then of the other, in turn.
func host(n int) api.Prefix {
	if n%2 == 0 {
		return prefix(api.V4, 0, uint64(n*40503%65536), 32)
	}
	return prefix(api.V6, uint64(n*40503%65536), uint64(n), 128)
}

func TestP4LimitOfBothFamiliesTogether(t *testing.T) {
	for _, limit := range []int{1, 2, 3, 16, 255, 256} {
		x := tableOfTwo(t, limit)
		for i := range limit {
			checkPut(t, x, api.Route{Prefix: host(i)}, api.OK)
		}
		for i := limit; i < limit+4; i++ {
			checkPut(t, x, api.Route{Prefix: host(i)}, api.ErrFull)
			checkTake(t, x, host(i), api.ErrRoute)
		}
		four, _ := x.Dump(api.V4)
		six, _ := x.Dump(api.V6)
		if len(four) != (limit+1)/2 || len(six) != limit/2 {
			t.Errorf("limit %d: %d and %d routes", limit, len(four), len(six))
		}
		// The room of a route that is taken is there for either family.
		for i := range limit {
			checkTake(t, x, host(i), api.OK)
			checkPut(t, x, api.Route{Prefix: host(i + 1001), Group: 1}, api.OK)
			checkPut(t, x, api.Route{Prefix: host(i + 2002), Group: 1}, api.ErrFull)
		}
	}
}

func TestP4LimitOfOneFamily(t *testing.T) {
	for _, family := range []int{api.V4, api.V6} {
		x := tableOfTwo(t, 256)
		for i := range 256 {
			checkPut(t, x, api.Route{Prefix: prefix(family, 0, uint64(i), widthOf(family))}, api.OK)
		}
		for _, other := range []int{api.V4, api.V6} {
			checkPut(t, x, api.Route{Prefix: prefix(other, 0, 0, 0)}, api.ErrFull)
		}
		if l, e := x.Dump(family); len(l) != 256 || e != api.OK {
			t.Errorf("Dump(%d) = %d routes, %d", family, len(l), e)
		}
	}
}

func TestP4NewTableHasNoRoutes(t *testing.T) {
	x := newTable(t, 256)
	mustDump(t, x, api.V4)
	mustDump(t, x, api.V6)
	checkTake(t, x, prefix(api.V4, 0, 0, 0), api.ErrRoute)
	checkTake(t, x, prefix(api.V6, 0, 0, 0), api.ErrRoute)
	checkPut(t, x, api.Route{Prefix: prefix(api.V4, 0, 0, 0)}, api.ErrGroup)
}

func TestP6EveryLengthIsARouteOfItsOwn(t *testing.T) {
	x := tableOfTwo(t, 256)
	var want [api.V6 + 1][]string
	for _, family := range []int{api.V4, api.V6} {
		for n := range widthOf(family) + 1 {
			// Lengths that rise and lengths that fall, in turn.
			length := n
			if n%2 == 1 {
				length = widthOf(family) - n
			}
			checkTake(t, x, prefix(family, 0, 0, length), api.ErrRoute)
			checkPut(t, x, api.Route{Prefix: prefix(family, 0, 0, length), Group: length % 2}, api.OK)
		}
		for n := range widthOf(family) + 1 {
			want[family] = append(want[family], fmt.Sprint(written(prefix(family, 0, 0, n)), " ", n%2))
		}
		mustDump(t, x, family, want[family]...)
	}
	for _, family := range []int{api.V4, api.V6} {
		for _, length := range []int{0, widthOf(family), widthOf(family) / 2} {
			checkTake(t, x, prefix(family, 0, 0, length), api.OK)
			checkTake(t, x, prefix(family, 0, 0, length), api.ErrRoute)
			want[family] = slices.DeleteFunc(want[family], func(s string) bool {
				return s == fmt.Sprint(written(prefix(family, 0, 0, length)), " ", length%2)
			})
			mustDump(t, x, family, want[family]...)
		}
	}
}

func TestP6UppermostAddresses(t *testing.T) {
	x := tableOfTwo(t, 256)
	for _, family := range []int{api.V4, api.V6} {
		want := []string{}
		for n := range widthOf(family) + 1 {
			checkPut(t, x, api.Route{Prefix: ones(family, n), Group: 1}, api.OK)
			want = append(want, written(ones(family, n))+" 1")
		}
		mustDump(t, x, family, want...)
	}
}

// inOrder: routes in the order of Dump, of each family by itself.
var inOrder = []api.Prefix{
	prefix(api.V4, 0, 0, 0), prefix(api.V4, 0, 0, 32), prefix(api.V4, 0, 1, 32),
	prefix(api.V4, 0, 1<<31, 1), prefix(api.V4, 0, 1<<31, 2), prefix(api.V4, 0, 3<<30, 2),
	prefix(api.V6, 0, 0, 0), prefix(api.V6, 0, 0, 128), prefix(api.V6, 0, 1, 128), prefix(api.V6, 0, 1<<63, 65), prefix(api.V6, 0, math.MaxUint64, 128),
	prefix(api.V6, 1, 0, 64), prefix(api.V6, 1, 0, 128), prefix(api.V6, 1, 1, 128), prefix(api.V6, 1<<63, 0, 1), prefix(api.V6, 1<<63, 0, 100), prefix(api.V6, math.MaxUint64, 0, 64),
}

func texts(l []api.Prefix, family int) []string {
	out := []string{}
	for _, p := range l {
		if p.Addr.Family == family {
			out = append(out, written(p)+" 0")
		}
	}
	return out
}

func TestP6OrderOfDump(t *testing.T) {
	n := len(inOrder)
	for step := 1; step < n; step++ {
		// As n is prime, each step goes once through all of them.
		for start := range n {
			x := tableOfTwo(t, n)
			for i := range n {
				checkPut(t, x, api.Route{Prefix: inOrder[(start+i*step)%n]}, api.OK)
			}
			mustDump(t, x, api.V4, texts(inOrder, api.V4)...)
			mustDump(t, x, api.V6, texts(inOrder, api.V6)...)
			rest := slices.Clone(inOrder)
			for i := range n {
				p := inOrder[(start+i*step)%n]
				checkTake(t, x, p, api.OK)
				rest = slices.DeleteFunc(rest, func(q api.Prefix) bool { return p == q })
				mustDump(t, x, api.V4, texts(rest, api.V4)...)
				mustDump(t, x, api.V6, texts(rest, api.V6)...)
			}
		}
	}
}

func TestP6TakeOfRoutesThatAreNotThere(t *testing.T) {
	x := tableOfTwo(t, 10)
	mustPut(t, x, "10.0.0.0/8", 0)
	mustPut(t, x, "0:0:0:0:0:0:a00:0/120", 1)
	before := show(x)
	for _, text := range []string{
		"10.0.0.0/7", "10.0.0.0/9", "10.0.0.0/32", "11.0.0.0/8", "9.0.0.0/8", "0.0.0.0/0", "0.0.0.0/8", "10.1.0.0/16", "255.255.255.255/32",
		"0:0:0:0:0:0:a00:0/119", "0:0:0:0:0:0:a00:0/128", "0:0:0:0:0:0:b00:0/120", "1:0:0:0:0:0:a00:0/120", "0:0:0:0:0:0:0:0/0",
	} {
		checkTake(t, x, read(t, text), api.ErrRoute)
	}
	if show(x) != before {
		t.Errorf("Take of no route made of %v this: %v", before, show(x))
	}
	mustTake(t, x, "10.0.0.0/8")
	checkTake(t, x, read(t, "10.0.0.0/8"), api.ErrRoute)
	mustDump(t, x, api.V6, "0:0:0:0:0:0:a00:0/120 1")
	mustTake(t, x, "0:0:0:0:0:0:a00:0/120")
	checkTake(t, x, read(t, "0:0:0:0:0:0:a00:0/120"), api.ErrRoute)
	mustPut(t, x, "10.0.0.0/8", 1)
	mustDump(t, x, api.V4, "10.0.0.0/8 1")
}

// wrongPrefix: one that is not good, and the first of its errors.
type wrongPrefix struct {
	p api.Prefix
	e api.Errno
}

func wrongPrefixes() []wrongPrefix {
	l := []wrongPrefix{
		{prefix(api.V4, 0, 1, 31), api.ErrAddr}, {prefix(api.V4, 0, 1<<31, 0), api.ErrAddr}, {prefix(api.V4, 0, 0x0a010000, 15), api.ErrAddr},
		{prefix(api.V4, 1, 0, 0), api.ErrAddr}, {prefix(api.V4, 1<<63, 0, 32), api.ErrAddr}, {prefix(api.V4, 0, 1<<32, 32), api.ErrAddr}, {prefix(api.V4, 0, 1<<63, 0), api.ErrAddr},
		{prefix(api.V6, 0, 1, 127), api.ErrAddr}, {prefix(api.V6, 0, 1<<63, 64), api.ErrAddr}, {prefix(api.V6, 1, 0, 63), api.ErrAddr}, {prefix(api.V6, 1<<63, 0, 0), api.ErrAddr},
	}
	for _, length := range []int{-1, 33, 64, 128, 1 << 32, math.MaxInt, math.MinInt} {
		l = append(l, wrongPrefix{prefix(api.V4, 0, 0, length), api.ErrLen}, wrongPrefix{prefix(api.V4, 1, 1<<32, length), api.ErrLen})
	}
	for _, length := range []int{-1, 129, 256, 1 << 32, math.MaxInt, math.MinInt} {
		l = append(l, wrongPrefix{prefix(api.V6, 0, 0, length), api.ErrLen}, wrongPrefix{prefix(api.V6, 1, 1, length), api.ErrLen})
	}
	for _, family := range wrongFamilies {
		l = append(l, wrongPrefix{prefix(family, 0, 0, 0), api.ErrFamily}, wrongPrefix{prefix(family, 1, 1, -1), api.ErrFamily}, wrongPrefix{prefix(family, 0, 1, 0), api.ErrFamily})
	}
	return l
}

var (
	wrongFamilies = []int{0, 1, 2, 3, 5, 7, 46, -4, -6, 1<<32 + 4, 1<<32 + 6, math.MaxInt, math.MinInt}
	wrongGroups   = []int{2, 3, 31, 32, 33, -1, -2, 1 << 32, math.MaxInt, math.MinInt}
)

func TestP6WrongPrefixes(t *testing.T) {
	empty, part, full := tableOfTwo(t, 1), tableOfTwo(t, 10), tableOfTwo(t, 2)
	for _, x := range []*waymark.Table{part, full} {
		mustPut(t, x, "0.0.0.0/0", 0)
		mustPut(t, x, "0:0:0:0:0:0:0:0/0", 1)
	}
	for _, x := range []*waymark.Table{empty, part, full} {
		before := show(x)
		for _, c := range wrongPrefixes() {
			checkTake(t, x, c.p, c.e)
			for _, g := range append([]int{0, 1}, wrongGroups...) {
				checkPut(t, x, api.Route{Prefix: c.p, Group: g}, c.e)
			}
		}
		if show(x) != before {
			t.Errorf("wrong prefixes made of %v this: %v", before, show(x))
		}
	}
}

func TestP6WrongGroups(t *testing.T) {
	x := tableOfTwo(t, 2)
	for _, g := range wrongGroups {
		checkPut(t, x, route(t, "10.0.0.0/8", g), api.ErrGroup)
	}
	mustDump(t, x, api.V4)
	mustPut(t, x, "10.0.0.0/8", 0)
	mustPut(t, x, "1:0:0:0:0:0:0:0/16", 1)
	// ErrGroup goes ahead of ErrFull, and also holds where the prefix is there.
	for _, g := range wrongGroups {
		for _, text := range []string{"10.0.0.0/8", "1:0:0:0:0:0:0:0/16", "11.0.0.0/8"} {
			checkPut(t, x, route(t, text, g), api.ErrGroup)
		}
	}
	mustDump(t, x, api.V4, "10.0.0.0/8 0")
	mustDump(t, x, api.V6, "1:0:0:0:0:0:0:0/16 1")
	checkPut(t, x, route(t, "11.0.0.0/8", 0), api.ErrFull)
}

func TestP6EveryGroup(t *testing.T) {
	x := newTable(t, 256)
	for g := range api.MaxGroups {
		mustGroup(t, x, g, g)
	}
	want := []string{}
	for g := range api.MaxGroups {
		text := fmt.Sprintf("10.%d.0.0/16", g)
		mustPut(t, x, text, api.MaxGroups-1-g)
		want = append(want, fmt.Sprint(text, " ", api.MaxGroups-1-g))
	}
	mustDump(t, x, api.V4, want...)
	for g := range api.MaxGroups {
		checkDrop(t, x, g, api.ErrBusy)
	}
}

func TestP6DumpOfNoFamily(t *testing.T) {
	x := tableOfTwo(t, 10)
	for range 2 {
		for _, family := range wrongFamilies {
			if l, e := x.Dump(family); len(l) != 0 || e != api.ErrFamily {
				t.Errorf("Dump(%d) = %v, %d, want none, ErrFamily", family, l, e)
			}
		}
		mustPut(t, x, "0.0.0.0/0", 0)
		mustPut(t, x, "0:0:0:0:0:0:0:0/0", 1)
	}
}

func TestP5BusyTillTheLastRoute(t *testing.T) {
	x := tableOfTwo(t, 10)
	mustGroup(t, x, 2, 3)
	mustPut(t, x, "10.0.0.0/8", 0)
	mustPut(t, x, "11.0.0.0/8", 2)
	mustPut(t, x, "0:0:0:0:0:0:0:0/0", 2)
	checkDrop(t, x, 1, api.OK)
	checkDrop(t, x, 1, api.ErrGroup)
	checkDrop(t, x, 2, api.ErrBusy)
	mustHops(t, x, 2, 3)
	mustTake(t, x, "11.0.0.0/8")
	checkDrop(t, x, 2, api.ErrBusy)
	mustPut(t, x, "0:0:0:0:0:0:0:0/0", 0)
	checkDrop(t, x, 2, api.OK)
	checkPut(t, x, route(t, "11.0.0.0/8", 2), api.ErrGroup)
	checkPut(t, x, route(t, "10.0.0.0/8", 2), api.ErrGroup)
	mustDump(t, x, api.V4, "10.0.0.0/8 0")
	mustTake(t, x, "10.0.0.0/8")
	checkDrop(t, x, 0, api.ErrBusy)
	mustTake(t, x, "0:0:0:0:0:0:0:0/0")
	checkDrop(t, x, 0, api.OK)
	mustHaveNoGroup(t, x, 0)
	// A group of the same number, made anew, may be put again.
	mustGroup(t, x, 0, 5)
	mustPut(t, x, "11.0.0.0/8", 0)
	checkDrop(t, x, 0, api.ErrBusy)
	mustHops(t, x, 0, 5)
}

func TestP5OneBusyGroupAmongMany(t *testing.T) {
	x := fullTable(t)
	mustPut(t, x, "10.0.0.0/8", 31)
	for g := range 31 {
		checkDrop(t, x, g, api.OK)
	}
	for _, g := range []int{-1, 0, 30, 32, 63, math.MaxInt, math.MinInt} {
		checkDrop(t, x, g, api.ErrGroup)
	}
	checkDrop(t, x, 31, api.ErrBusy)
	mustHops(t, x, 31, 31, 32, 65535)
}
