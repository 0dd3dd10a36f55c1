package waymark_test

import (
	"fmt"
	"maps"
	"math/bits"
	"math/rand"
	"slices"
	"strconv"
	"strings"
	"testing"

	"waymark/api"
	"waymark/waymark"
)

// bitsOf tells the bits of a prefix, as a text of 0 and 1: one prefix contains another if its text begins the other's.
func bitsOf(p api.Prefix) string {
	if p.Addr.Family == api.V4 {
		return fmt.Sprintf("%032b", p.Addr.Lo)[:p.Len]
	}
	return fmt.Sprintf("%064b%064b", p.Addr.Hi, p.Addr.Lo)[:p.Len]
}

// addrOf tells the address that begins with these bits, and all behind them as the last one is told.
func addrOf(family int, text, behind string) api.Addr {
	text += strings.Repeat(behind, widthOf(family)-len(text))
	if family == api.V4 {
		text = strings.Repeat("0", 96) + text
	}
	hi, _ := strconv.ParseUint(text[:64], 2, 64)
	lo, _ := strconv.ParseUint(text[64:], 2, 64)
	return api.Addr{Family: family, Hi: hi, Lo: lo}
}

// questions: the routes of a family, told by maps from the bits of their prefixes.
type questions struct {
	family  int
	groups  map[string]int
	lengths []int
	entries map[int]map[string]api.Entry
}

func newQuestions(family int, routes []api.Route) *questions {
	q := &questions{family, map[string]int{}, nil, map[int]map[string]api.Entry{}}
	for _, r := range routes {
		q.groups[bitsOf(r.Prefix)] = r.Group
	}
	for text := range q.groups {
		q.lengths = append(q.lengths, len(text))
	}
	slices.Sort(q.lengths)
	q.lengths = slices.Compact(q.lengths)
	for _, m := range q.lengths {
		q.entries[m] = map[string]api.Entry{}
	}
	for text := range q.groups {
		for _, m := range wayOf(q.lengths, len(text)) {
			q.lay(text, m)
		}
	}
	return q
}

// lay lays what a route has at a length of its way: itself, or a mark.
func (q *questions) lay(text string, m int) {
	if m > len(text) {
		return
	}
	one, there := q.entries[m][text[:m]]
	if !there {
		one = api.Entry{Addr: addrOf(q.family, text[:m], "0"), Group: api.None, Best: q.longest(text[:m])}
	}
	if m < len(text) {
		one.Marks++
	} else {
		one.Group = q.groups[text]
	}
	q.entries[m][text[:m]] = one
}

// wayOf tells the way of n in the tree over these lengths.
func wayOf(l []int, n int) []int {
	node := len(l) / 2
	switch m := l[node]; {
	case m < n:
		return append([]int{m}, wayOf(l[node+1:], n)...)
	case m > n:
		return append([]int{m}, wayOf(l[:node], n)...)
	}
	return []int{n}
}

// longest tells by trying all of them the length of the longest route that these bits begin with.
func (q *questions) longest(text string) int {
	best := api.None
	for route := range q.groups {
		if strings.HasPrefix(text, route) {
			best = max(best, len(route))
		}
	}
	return best
}

func (q *questions) at(m int) []api.Entry {
	l := []api.Entry{}
	for _, text := range slices.Sorted(maps.Keys(q.entries[m])) {
		l = append(l, q.entries[m][text])
	}
	return l
}

func (q *questions) lookup(text string) api.Found {
	f := api.Found{Len: q.longest(text), Group: api.None}
	if f.Len != api.None {
		f.Group = q.groups[text[:f.Len]]
	}
	for l := q.lengths; len(l) > 0; {
		node := len(l) / 2
		f.Asked = append(f.Asked, l[node])
		if _, there := q.entries[l[node]][text[:l[node]]]; there {
			l = l[node+1:]
		} else {
			l = l[:node]
		}
	}
	return f
}

// addresses: those of the routes, the last ones in them, and those beside them.
func (q *questions) addresses() []api.Addr {
	l := []api.Addr{{Family: q.family}, uppermost(q.family)}
	for text := range q.groups {
		l = append(l, addrOf(q.family, text, "0"), addrOf(q.family, text, "1"))
		if n := len(text) - 1; n >= 0 {
			beside := text[:n] + string('0'+'1'-text[n])
			l = append(l, addrOf(q.family, beside, "0"), addrOf(q.family, beside, "1"))
		}
	}
	return l
}

// checkQuestions: what is told of a family is what the model makes of its routes.
func checkQuestions(t *testing.T, x *waymark.Table, family int) {
	t.Helper()
	routes, _ := x.Dump(family)
	q := newQuestions(family, routes)
	mustLengths(t, x, family, q.lengths...)
	for m := range widthOf(family) + 1 {
		if l, e := x.Entries(family, m); !slices.Equal(l, q.at(m)) || e != api.OK {
			t.Fatalf("P8: of %v: Entries(%d, %d) = %v, %d, want %v", routes, family, m, l, e, q.at(m))
		}
	}
	for _, a := range q.addresses() {
		checkLookup(t, x, q, a)
	}
}

func checkLookup(t *testing.T, x *waymark.Table, q *questions, a api.Addr) {
	t.Helper()
	text := bitsOf(api.Prefix{Addr: a, Len: widthOf(a.Family)})
	f, e := x.Lookup(a)
	want := q.lookup(text)
	if f.Len != want.Len || f.Group != want.Group || !slices.Equal(f.Asked, want.Asked) || e != api.OK {
		t.Fatalf("P9: of %v: Lookup(%v) = %+v, %d, want %+v", q.groups, a, f, e, want)
	}
	if len(f.Asked) > bits.Len(uint(len(q.lengths))) {
		t.Fatalf("P12: of %d lengths %d were asked: %v", len(q.lengths), len(f.Asked), f.Asked)
	}
	// What was found is the Best of the last entry that was found.
	best := api.None
	for _, m := range f.Asked {
		if one, there := q.entries[m][text[:m]]; there {
			best = one.Best
		}
	}
	if f.Len != best {
		t.Fatalf("P9: of %v: Lookup(%v) = %+v, and the last entry's Best is %d", q.groups, a, f, best)
	}
}

// drawnPrefix: one of the lengths, at one of a few addresses or near it, so that many of them contain others.
func drawnPrefix(r *rand.Rand, family int, lengths []int) api.Prefix {
	text := []byte(strings.Repeat([]string{"0", "1", "01", "0011"}[r.Intn(4)], 128)[:widthOf(family)])
	for range r.Intn(4) {
		text[r.Intn(len(text))] ^= 1
	}
	n := lengths[r.Intn(len(lengths))]
	return api.Prefix{Addr: addrOf(family, string(text[:n]), "0"), Len: n}
}

// drawnLengths: count lengths of a family, or fewer; its shortest and its longest are often among them.
func drawnLengths(r *rand.Rand, family, count int) []int {
	l := []int{}
	for range count {
		l = append(l, []int{0, widthOf(family), r.Intn(widthOf(family) + 1), r.Intn(widthOf(family) + 1)}[r.Intn(4)])
	}
	return l
}

func TestP8AndP9DrawnTablesAsTheModel(t *testing.T) {
	r := rand.New(rand.NewSource(8))
	for n := range 60 {
		x := tableOfTwo(t, []int{6, 40, 120}[n%3])
		lengths := [api.V6 + 1][]int{api.V4: drawnLengths(r, api.V4, 1+r.Intn(12)), api.V6: drawnLengths(r, api.V6, 1+r.Intn(40))}
		for i := range 60 {
			family := api.V4 + r.Intn(2)*2
			p := drawnPrefix(r, family, lengths[family])
			l, _ := x.Dump(family)
			switch {
			case i%4 == 3 && len(l) > 0:
				checkTake(t, x, l[r.Intn(len(l))].Prefix, api.OK)
			case i%7 == 6:
				x.Batch([]api.Change{{Kind: api.Put, Route: api.Route{Prefix: p}}, {Kind: api.Take, Route: api.Route{Prefix: drawnPrefix(r, family, lengths[family])}}})
			default:
				x.Put(api.Route{Prefix: p, Group: r.Intn(2)})
			}
			checkQuestions(t, x, family)
		}
		checkQuestions(t, x, api.V4)
		checkQuestions(t, x, api.V6)
	}
}

func TestP8AndP9FullTablesAsTheModel(t *testing.T) {
	r := rand.New(rand.NewSource(9))
	for _, family := range []int{api.V4, api.V6} {
		for _, count := range []int{1, 2, 3, 7, 8, 30, 300} {
			x := tableOfTwo(t, api.MaxRoutes)
			lengths := drawnLengths(r, family, count)
			for range 3000 {
				x.Put(api.Route{Prefix: drawnPrefix(r, family, lengths), Group: r.Intn(2)})
			}
			checkQuestions(t, x, family)
		}
	}
}
