package waymark_test

import (
	"fmt"
	"math"
	"slices"
	"testing"

	"waymark/api"
	"waymark/waymark"
)

func mustHaveNoEntries(t *testing.T, x *waymark.Table, family int) {
	t.Helper()
	mustLengths(t, x, family)
	for n := range widthOf(family) + 1 {
		mustEntries(t, x, family, n)
	}
}

// tableOfDocument: the table of the document's examples.
func tableOfDocument(t *testing.T) *waymark.Table {
	t.Helper()
	x := tableOfTwo(t, 10)
	mustPut(t, x, "10.0.0.0/8", 0)
	mustPut(t, x, "10.1.0.0/16", 1)
	mustPut(t, x, "10.1.2.0/24", 0)
	mustPut(t, x, "0.0.0.0/0", 1)
	return x
}

func TestP8DocumentExamples(t *testing.T) {
	x := tableOfDocument(t)
	mustLengths(t, x, api.V4, 0, 8, 16, 24)
	mustEntries(t, x, api.V4, 0, "0.0.0.0 1 0 0")
	mustEntries(t, x, api.V4, 8, "10.0.0.0 0 0 8")
	mustEntries(t, x, api.V4, 16, "10.1.0.0 1 1 16")
	mustEntries(t, x, api.V4, 24, "10.1.2.0 0 0 24")
	mustTake(t, x, "10.1.0.0/16")
	mustLengths(t, x, api.V4, 0, 8, 24)
	mustEntries(t, x, api.V4, 8, "10.0.0.0 0 1 8")
	mustEntries(t, x, api.V4, 16)
	mustPut(t, x, "11.5.0.0/24", 1)
	mustEntries(t, x, api.V4, 8, "10.0.0.0 0 1 8", "11.0.0.0 -1 1 0")
	mustHaveNoEntries(t, x, api.V6)
}

func TestP8NoRoute(t *testing.T) {
	for _, x := range []*waymark.Table{newTable(t, 1), fullTable(t)} {
		mustHaveNoEntries(t, x, api.V4)
		mustHaveNoEntries(t, x, api.V6)
	}
}

func TestP8OneLength(t *testing.T) {
	for _, family := range []int{api.V4, api.V6} {
		for n := range widthOf(family) + 1 {
			x := tableOfTwo(t, 2)
			p := ones(family, n)
			checkPut(t, x, api.Route{Prefix: p, Group: 1}, api.OK)
			mustLengths(t, x, family, n)
			for m := range widthOf(family) + 1 {
				want := []api.Entry{}
				if m == n {
					want = append(want, api.Entry{Addr: p.Addr, Group: 1, Marks: 0, Best: n})
				}
				if l, e := x.Entries(family, m); !slices.Equal(l, want) || e != api.OK {
					t.Errorf("of one route of length %d: Entries(%d, %d) = %v, %d", n, family, m, l, e)
				}
			}
			mustHaveNoEntries(t, x, api.V4+api.V6-family)
			// Another route of this length is another entry, not a mark.
			if n > 0 {
				checkPut(t, x, api.Route{Prefix: prefix(family, 0, 0, n), Group: 0}, api.OK)
				mustLengths(t, x, family, n)
				want := []api.Entry{{Addr: api.Addr{Family: family}, Group: 0, Best: n}, {Addr: p.Addr, Group: 1, Best: n}}
				if l, e := x.Entries(family, n); !slices.Equal(l, want) || e != api.OK {
					t.Errorf("of two routes of length %d: Entries = %v, %d", n, l, e)
				}
			}
		}
	}
}

// Each route contains the longer ones: so at each length there is one entry, and its marks tell the tree.
func TestP8EvenAndOddNumbersOfLengths(t *testing.T) {
	for _, marks := range [][]int{
		{0}, {0, 0}, {0, 1, 0}, {0, 0, 1, 0}, {0, 0, 2, 0, 0}, {0, 1, 0, 2, 0, 0}, {0, 1, 0, 3, 0, 1, 0}, {0, 0, 1, 0, 3, 0, 1, 0},
	} {
		for _, family := range []int{api.V4, api.V6} {
			x := tableOfTwo(t, 10)
			want := []api.Entry{}
			lengths := []int{}
			for i, n := range marks {
				length := i * widthOf(family) / 8
				p := ones(family, length)
				checkPut(t, x, api.Route{Prefix: p, Group: i % 2}, api.OK)
				want = append(want, api.Entry{Addr: p.Addr, Group: i % 2, Marks: n, Best: length})
				lengths = append(lengths, length)
			}
			mustLengths(t, x, family, lengths...)
			for i, n := range lengths {
				if l, e := x.Entries(family, n); !slices.Equal(l, want[i:i+1]) || e != api.OK {
					t.Errorf("of %d lengths: Entries(%d, %d) = %v, %d, want %v", len(marks), family, n, l, e, want[i])
				}
			}
		}
	}
}

func TestP8ShortestAndLongestLengths(t *testing.T) {
	x := tableOfTwo(t, 20)
	mustPut(t, x, "0.0.0.0/0", 0)
	mustPut(t, x, "255.255.255.255/32", 1)
	mustPut(t, x, "0.0.0.0/32", 0)
	mustPut(t, x, "0:0:0:0:0:0:0:0/0", 1)
	mustPut(t, x, "ffff:ffff:ffff:ffff:ffff:ffff:ffff:ffff/128", 0)
	mustPut(t, x, "0:0:0:0:0:0:0:0/128", 1)
	// Of two lengths the longer one is the node: no route has a mark.
	mustLengths(t, x, api.V4, 0, 32)
	mustEntries(t, x, api.V4, 0, "0.0.0.0 0 0 0")
	mustEntries(t, x, api.V4, 32, "0.0.0.0 0 0 32", "255.255.255.255 1 0 32")
	mustLengths(t, x, api.V6, 0, 128)
	mustEntries(t, x, api.V6, 0, "0:0:0:0:0:0:0:0 1 0 0")
	mustEntries(t, x, api.V6, 128, "0:0:0:0:0:0:0:0 1 0 128", "ffff:ffff:ffff:ffff:ffff:ffff:ffff:ffff 0 0 128")
	mustPut(t, x, "128.0.0.0/1", 1)
	mustEntries(t, x, api.V4, 1, "0.0.0.0 -1 1 0", "128.0.0.0 1 1 1")
	mustPut(t, x, "0:0:0:0:0:0:0:2/127", 0)
	mustLengths(t, x, api.V6, 0, 127, 128)
	mustEntries(t, x, api.V6, 127, "0:0:0:0:0:0:0:0 -1 1 0", "0:0:0:0:0:0:0:2 0 0 127", "ffff:ffff:ffff:ffff:ffff:ffff:ffff:fffe -1 1 0")
}

func TestP8OrderOfEntries(t *testing.T) {
	four := []string{"9.0.0.0/8", "20.5.0.0/16", "10.1.2.0/24", "200.200.200.0/24", "30.0.0.0/16", "20.5.1.0/24", "20.5.2.0/24"}
	six := []string{"0:0:0:0:ffff:ffff:0:1/128", "0:0:0:1:0:0:0:0/96", "ffff:0:0:0:0:0:0:5/128", "0:0:0:0:0:1:0:0/96", "ffff:0:0:0:0:0:0:0/32"}
	for start := range four {
		x := tableOfTwo(t, 20)
		for i := range four {
			mustPut(t, x, four[(start+i)%len(four)], 1)
			mustPut(t, x, six[(start+i*2)%len(six)], 0)
		}
		mustEntries(t, x, api.V4, 8, "9.0.0.0 1 0 8")
		mustEntries(t, x, api.V4, 16, "10.1.0.0 -1 1 -1", "20.5.0.0 1 2 16", "30.0.0.0 1 0 16", "200.200.0.0 -1 1 -1")
		mustEntries(t, x, api.V4, 24, "10.1.2.0 1 0 24", "20.5.1.0 1 0 24", "20.5.2.0 1 0 24", "200.200.200.0 1 0 24")
		mustEntries(t, x, api.V6, 32, "ffff:0:0:0:0:0:0:0 0 0 32")
		mustEntries(t, x, api.V6, 96, "0:0:0:0:0:1:0:0 0 0 96", "0:0:0:0:ffff:ffff:0:0 -1 1 -1", "0:0:0:1:0:0:0:0 0 0 96", "ffff:0:0:0:0:0:0:0 -1 1 32")
		mustEntries(t, x, api.V6, 128, "0:0:0:0:ffff:ffff:0:1 0 0 128", "ffff:0:0:0:0:0:0:5 0 0 128")
	}
}

func TestP8RouteMarkOrBoth(t *testing.T) {
	x := tableOfTwo(t, 20)
	mustPut(t, x, "10.0.0.0/7", 0)
	mustPut(t, x, "10.0.0.0/8", 1)
	mustPut(t, x, "12.0.0.0/16", 0)
	mustPut(t, x, "10.2.3.0/24", 1)
	// Lengths 7 8 16 24: the node is 16. A mark alone, and its Best is the longer of two routes.
	mustEntries(t, x, api.V4, 16, "10.2.0.0 -1 1 8", "12.0.0.0 0 0 16")
	// A route whose address is the mark's own, and is longer, is no Best of it.
	mustPut(t, x, "10.2.0.0/24", 0)
	mustEntries(t, x, api.V4, 16, "10.2.0.0 -1 2 8", "12.0.0.0 0 0 16")
	mustPut(t, x, "10.2.0.0/16", 1)
	mustEntries(t, x, api.V4, 16, "10.2.0.0 1 2 16", "12.0.0.0 0 0 16")
	mustPut(t, x, "10.2.0.0/16", 0)
	mustEntries(t, x, api.V4, 16, "10.2.0.0 0 2 16", "12.0.0.0 0 0 16")
	mustTake(t, x, "10.2.3.0/24")
	mustEntries(t, x, api.V4, 16, "10.2.0.0 0 1 16", "12.0.0.0 0 0 16")
	mustTake(t, x, "10.2.0.0/16")
	mustEntries(t, x, api.V4, 16, "10.2.0.0 -1 1 8", "12.0.0.0 0 0 16")
	// Best of a mark falls to the shorter route, and to none.
	mustPut(t, x, "99.0.0.0/8", 0)
	mustTake(t, x, "10.0.0.0/8")
	mustEntries(t, x, api.V4, 16, "10.2.0.0 -1 1 7", "12.0.0.0 0 0 16")
	mustPut(t, x, "98.0.0.0/7", 0)
	mustTake(t, x, "10.0.0.0/7")
	mustEntries(t, x, api.V4, 16, "10.2.0.0 -1 1 -1", "12.0.0.0 0 0 16")
	mustEntries(t, x, api.V4, 24, "10.2.0.0 0 0 24")
}

// Marks of routes of several lengths meet at one entry, and lie on their ways alone.
func TestP8MarksOfSeveralLengths(t *testing.T) {
	x := tableOfTwo(t, 20)
	for _, text := range []string{"16.0.0.0/4", "16.0.0.0/8", "32.0.0.0/12", "48.0.0.0/16", "48.0.240.0/20", "48.0.7.0/24", "48.0.7.128/28", "48.0.7.144/28", "48.0.8.0/28"} {
		mustPut(t, x, text, 1)
	}
	mustLengths(t, x, api.V4, 4, 8, 12, 16, 20, 24, 28)
	mustEntries(t, x, api.V4, 4, "16.0.0.0 1 0 4")
	mustEntries(t, x, api.V4, 8, "16.0.0.0 1 0 8", "32.0.0.0 -1 1 -1")
	mustEntries(t, x, api.V4, 12, "32.0.0.0 1 0 12")
	mustEntries(t, x, api.V4, 16, "48.0.0.0 1 5 16")
	mustEntries(t, x, api.V4, 20, "48.0.240.0 1 0 20")
	mustEntries(t, x, api.V4, 24, "48.0.7.0 1 2 24", "48.0.8.0 -1 1 16")
	mustEntries(t, x, api.V4, 28, "48.0.7.128 1 0 28", "48.0.7.144 1 0 28", "48.0.8.0 1 0 28")
}

func TestP8LengthThatNoRouteHas(t *testing.T) {
	x := tableOfTwo(t, 10)
	mustPut(t, x, "10.0.0.0/8", 0)
	mustPut(t, x, "10.1.0.0/16", 0)
	mustPut(t, x, "10.1.2.0/24", 1)
	for n := range 33 {
		if n != 8 && n != 16 && n != 24 {
			mustEntries(t, x, api.V4, n)
		}
	}
	mustEntries(t, x, api.V4, 16, "10.1.0.0 0 1 16")
	// With the last route of a length go the marks at it.
	mustTake(t, x, "10.1.0.0/16")
	mustLengths(t, x, api.V4, 8, 24)
	mustEntries(t, x, api.V4, 16)
	mustEntries(t, x, api.V4, 8, "10.0.0.0 0 0 8")
}

func TestP8FamiliesByThemselves(t *testing.T) {
	x := tableOfDocument(t)
	before := showQuestions(x, api.V4)
	for _, text := range []string{"a01:200:0:0:0:0:0:0/24", "a00:0:0:0:0:0:0:0/8", "0:0:0:0:0:0:a01:0/112", "0:0:0:0:0:0:a01:203/128", "0:0:0:0:0:0:0:0/96"} {
		mustPut(t, x, text, 1)
	}
	if now := showQuestions(x, api.V4); now != before {
		t.Errorf("routes of V6 made of %v this: %v", before, now)
	}
	mustLengths(t, x, api.V6, 8, 24, 96, 112, 128)
	mustEntries(t, x, api.V6, 96, "0:0:0:0:0:0:0:0 1 2 96")
	mustEntries(t, x, api.V6, 8, "a00:0:0:0:0:0:0:0 1 0 8")
	mustEntries(t, x, api.V6, 16)
	before = showQuestions(x, api.V6)
	mustTake(t, x, "10.0.0.0/8")
	mustPut(t, x, "10.1.2.3/32", 0)
	if now := showQuestions(x, api.V6); now != before {
		t.Errorf("routes of V4 made of %v this: %v", before, now)
	}
}

func TestP8BehindBatches(t *testing.T) {
	x := tableOfDocument(t)
	mustBatch(t, x, take(t, "10.1.0.0/16"), put(t, "11.5.0.0/24", 1))
	mustLengths(t, x, api.V4, 0, 8, 24)
	mustEntries(t, x, api.V4, 8, "10.0.0.0 0 1 8", "11.0.0.0 -1 1 0")
	mustEntries(t, x, api.V4, 16)
	// A batch that fails leaves no length, no mark and no group behind.
	mustFail(t, x, 4, api.ErrRoute, take(t, "0.0.0.0/0"), put(t, "10.0.0.0/8", 1), put(t, "11.5.0.0/16", 1), take(t, "10.1.2.0/24"), take(t, "13.0.0.0/8"))
	mustLengths(t, x, api.V4, 0, 8, 24)
	mustEntries(t, x, api.V4, 8, "10.0.0.0 0 1 8", "11.0.0.0 -1 1 0")
	mustEntries(t, x, api.V4, 16)
	mustFail(t, x, 1, api.ErrKind, put(t, "0:0:0:0:0:0:0:0/0", 1), api.Change{Kind: 3})
	mustHaveNoEntries(t, x, api.V6)
	mustBatch(t, x, take(t, "0.0.0.0/0"), put(t, "10.0.0.0/8", 1), put(t, "11.5.0.0/16", 1), take(t, "10.1.2.0/24"))
	mustLengths(t, x, api.V4, 8, 16, 24)
	mustEntries(t, x, api.V4, 8, "10.0.0.0 1 0 8")
	mustEntries(t, x, api.V4, 16, "11.5.0.0 1 1 16")
}

func TestP8RoutesThatAreNotPutOrTaken(t *testing.T) {
	x := tableOfTwo(t, 2)
	mustPut(t, x, "10.0.0.0/8", 0)
	mustPut(t, x, "10.1.0.0/16", 1)
	checkPut(t, x, route(t, "10.1.2.0/24", 0), api.ErrFull)
	checkPut(t, x, route(t, "10.1.2.0/24", 5), api.ErrGroup)
	checkPut(t, x, route(t, "10.0.0.0/8", 5), api.ErrGroup)
	checkPut(t, x, api.Route{Prefix: prefix(api.V4, 0, 1, 24)}, api.ErrAddr)
	checkTake(t, x, read(t, "10.0.0.0/16"), api.ErrRoute)
	checkTake(t, x, read(t, "10.1.0.0/17"), api.ErrRoute)
	mustLengths(t, x, api.V4, 8, 16)
	mustEntries(t, x, api.V4, 8, "10.0.0.0 0 0 8")
	mustEntries(t, x, api.V4, 16, "10.1.0.0 1 0 16")
	mustEntries(t, x, api.V4, 24)
}

func TestP8GroupsOfEntries(t *testing.T) {
	x := fullTable(t)
	want := []string{}
	for g := range api.MaxGroups {
		text := fmt.Sprintf("%d.7.0.0", g)
		mustPut(t, x, text+"/16", api.MaxGroups-1-g)
		want = append(want, fmt.Sprint(text, " ", api.MaxGroups-1-g, " 0 16"))
	}
	mustEntries(t, x, api.V4, 16, want...)
}

var (
	wrongLengths4 = []int{-1, -2, 33, 34, 64, 127, 128, 129, 1 << 32, math.MaxInt, math.MinInt}
	wrongLengths6 = []int{-1, -2, 129, 130, 256, 1 << 32, math.MaxInt, math.MinInt}
)

func checkEntriesError(t *testing.T, x *waymark.Table, family, length int, want api.Errno) {
	t.Helper()
	if l, e := x.Entries(family, length); len(l) != 0 || e != want {
		t.Errorf("Entries(%d, %d) = %v, %d, want none, %d", family, length, l, e, want)
	}
}

func TestP8WrongFamiliesAndLengths(t *testing.T) {
	x := tableOfTwo(t, 10)
	for range 2 {
		for _, family := range wrongFamilies {
			if l, e := x.Lengths(family); len(l) != 0 || e != api.ErrFamily {
				t.Errorf("Lengths(%d) = %v, %d, want none, ErrFamily", family, l, e)
			}
			// Also where the length is none: ErrFamily goes ahead.
			for _, n := range append([]int{0, 8, 32}, wrongLengths4...) {
				checkEntriesError(t, x, family, n, api.ErrFamily)
			}
		}
		for _, n := range wrongLengths4 {
			checkEntriesError(t, x, api.V4, n, api.ErrLen)
		}
		for _, n := range wrongLengths6 {
			checkEntriesError(t, x, api.V6, n, api.ErrLen)
		}
		for n := range 33 {
			checkEntriesError(t, tableOfTwo(t, 1), api.V4, n, api.OK)
		}
		for n := range 129 {
			checkEntriesError(t, tableOfTwo(t, 1), api.V6, n, api.OK)
		}
		mustPut(t, x, "0.0.0.0/0", 0)
		mustPut(t, x, "0.0.0.0/32", 0)
		mustPut(t, x, "0:0:0:0:0:0:0:0/0", 1)
		mustPut(t, x, "0:0:0:0:0:0:0:0/128", 1)
	}
}
