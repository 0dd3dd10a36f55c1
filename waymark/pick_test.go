package waymark_test

import (
	"math"
	"math/big"
	"math/rand"
	"slices"
	"testing"

	"waymark/api"
	"waymark/waymark"
)

// mixedByHand mixes by whole numbers of any size, cut to 64 bits behind each product.
func mixedByHand(x uint64) uint64 {
	whole := new(big.Int).Lsh(big.NewInt(1), 64)
	n := new(big.Int).SetUint64(x)
	for _, step := range []struct {
		down  uint
		times uint64
	}{{30, 0xbf58476d1ce4e5b9}, {27, 0x94d049bb133111eb}, {31, 1}} {
		n.Xor(n, new(big.Int).Rsh(n, step.down))
		n.Mul(n, new(big.Int).SetUint64(step.times))
		n.Mod(n, whole)
	}
	return n.Uint64()
}

// seededTable: a table without groups and routes.
func seededTable(t *testing.T, seed uint64, own uint32) *waymark.Table {
	t.Helper()
	x, e := waymark.New(20, seed, own)
	if x == nil || e != api.OK {
		t.Fatalf("New(20, %d, %d) = %v, %d", seed, own, x, e)
	}
	return x
}

// tableOfHops: group 0 has these hops, and all addresses of both families go by it.
func tableOfHops(t *testing.T, seed uint64, hops ...int) *waymark.Table {
	t.Helper()
	x := seededTable(t, seed, 0x0a0000fe)
	mustGroup(t, x, 0, hops...)
	mustPut(t, x, "0.0.0.0/0", 0)
	mustPut(t, x, "0:0:0:0:0:0:0:0/0", 0)
	return x
}

func mustPick(t *testing.T, x *waymark.Table, text string, flow uint64, want int) {
	t.Helper()
	if h, e := x.Pick(at(t, text), flow); h != want || e != api.OK {
		t.Fatalf("Pick(%s, %#x) = %d, %d, want %d, OK", text, flow, h, e, want)
	}
}

func checkPickError(t *testing.T, x *waymark.Table, a api.Addr, flow uint64, want api.Errno) {
	t.Helper()
	if h, e := x.Pick(a, flow); h != 0 || e != want {
		t.Fatalf("Pick(%+v, %#x) = %d, %d, want 0, %d", a, flow, h, e, want)
	}
}

// flows: seeds and flows at the edges of 64 bits, and some that lie between.
var flows = []uint64{0, 1, 2, 1 << 27, 1 << 30, 1 << 31, 1<<32 - 1, 1 << 32, 1 << 34, 1 << 62, 1 << 63, 0x0a0000010a000002, 0x9e3779b97f4a7c15, math.MaxUint64 - 1, math.MaxUint64}

func TestP10OneHopWhateverTheFlow(t *testing.T) {
	for _, hop := range []int{0, 7, api.MaxHop} {
		for _, seed := range flows {
			x := tableOfHops(t, seed, hop)
			for _, flow := range flows {
				mustPick(t, x, "10.9.9.9", flow, hop)
				mustPick(t, x, "1:2:3:4:5:6:7:8", flow, hop)
			}
		}
	}
}

// The places were reckoned outside of this program. Hop and place are the same number here.
func TestP10KnownPlaces(t *testing.T) {
	for _, c := range []struct {
		seed, flow uint64
		// places: of groups with 1 to 8 hops.
		places [8]int
	}{
		{0, 0, [8]int{}},
		{math.MaxUint64, math.MaxUint64, [8]int{}},
		{0, 1, [8]int{0, 1, 1, 1, 4, 1, 6, 5}},
		{1, 0, [8]int{0, 1, 1, 1, 4, 1, 6, 5}},
		{0, math.MaxUint64, [8]int{0, 1, 0, 3, 2, 3, 0, 3}},
		{math.MaxUint64, 0, [8]int{0, 1, 0, 3, 2, 3, 0, 3}},
		{1, math.MaxUint64, [8]int{0, 0, 2, 2, 1, 2, 6, 2}},
		{1 << 63, 0, [8]int{0, 0, 0, 2, 0, 0, 0, 2}},
		{0xdeadbeef, 0x0a0000010a000002, [8]int{0, 1, 2, 3, 4, 5, 3, 7}},
	} {
		for n, place := range c.places {
			x := tableOfHops(t, c.seed, []int{0, 1, 2, 3, 4, 5, 6, 7}[:n+1]...)
			mustPick(t, x, "10.1.2.3", c.flow, place)
			mustPick(t, x, "1:2:3:4:5:6:7:8", c.flow, place)
		}
	}
}

func TestP10GroupsOfOneToEightHops(t *testing.T) {
	r := rand.New(rand.NewSource(10))
	drawn := slices.Clone(flows)
	for range 100 {
		drawn = append(drawn, r.Uint64())
	}
	for n := 1; n <= api.MaxHops; n++ {
		// The order of hops is neither a rising nor a falling one.
		hops := []int{500, 3, 65535, 0, 77, 1, 9000, 42}[:n]
		seen := map[int]bool{}
		for _, seed := range flows {
			x := tableOfHops(t, seed, hops...)
			for _, flow := range drawn {
				want := hops[mixedByHand(flow^seed)%uint64(n)]
				mustPick(t, x, "10.1.2.3", flow, want)
				mustPick(t, x, "ffff:0:0:0:0:0:0:1", flow, want)
				seen[want] = true
			}
		}
		if len(seen) != n {
			t.Errorf("of the hops %v these alone were picked: %v", hops, seen)
		}
	}
}

func TestP10OneHopMoreThanOnce(t *testing.T) {
	for _, hops := range [][]int{{5, 5}, {4, 4, 9, 4}, {1, 2, 1}, {0, 0, 3}, {6, 6, 6, 6, 6, 6, 6, 7}, {8, 8, 8, 8, 8, 8, 8, 8}} {
		x := tableOfHops(t, 99, hops...)
		for flow := range uint64(300) {
			want := hops[mixedByHand(flow^99)%uint64(len(hops))]
			mustPick(t, x, "10.1.2.3", flow, want)
			mustPick(t, x, "1:2:3:4:5:6:7:8", flow, want)
		}
	}
}

// tableOfWays: group n has the hop 100 + n alone, so that the hop tells which route was taken.
func tableOfWays(t *testing.T) *waymark.Table {
	t.Helper()
	x := seededTable(t, 5, 0x0a0000fe)
	for n := range 8 {
		mustGroup(t, x, n, 100+n)
	}
	return x
}

func TestP10LongestOfSeveralRoutes(t *testing.T) {
	x := tableOfWays(t)
	for n, text := range []string{"0.0.0.0/0", "10.0.0.0/8", "10.1.0.0/16", "10.1.2.0/24", "10.1.2.3/32"} {
		mustPut(t, x, text, n)
	}
	for n, text := range []string{"0:0:0:0:0:0:0:0/0", "a00:0:0:0:0:0:0:0/8", "a01:0:0:0:0:0:0:0/64", "a01:0:0:0:0:0:0:1/128"} {
		mustPut(t, x, text, 7-n)
	}
	for _, flow := range flows {
		mustPick(t, x, "9.0.0.0", flow, 100)
		mustPick(t, x, "255.255.255.255", flow, 100)
		mustPick(t, x, "10.2.0.0", flow, 101)
		mustPick(t, x, "10.1.3.0", flow, 102)
		mustPick(t, x, "10.1.2.4", flow, 103)
		mustPick(t, x, "10.1.2.3", flow, 104)
		mustPick(t, x, "b00:0:0:0:0:0:0:0", flow, 107)
		mustPick(t, x, "a02:0:0:0:0:0:0:0", flow, 106)
		mustPick(t, x, "a01:0:0:0:0:0:0:2", flow, 105)
		mustPick(t, x, "a01:0:0:0:0:0:0:1", flow, 104)
	}
}

func TestP10WhatIsToldBehindChanges(t *testing.T) {
	for _, c := range []struct{ short, long, in string }{
		{"10.0.0.0/8", "10.1.0.0/16", "10.1.2.3"},
		{"a00:0:0:0:0:0:0:0/8", "a01:0:0:0:0:0:0:0/64", "a01:0:0:0:9:9:9:9"},
	} {
		x := tableOfWays(t)
		checkPickError(t, x, at(t, c.in), 3, api.ErrRoute)
		mustPut(t, x, c.short, 1)
		mustPick(t, x, c.in, 3, 101)
		mustPut(t, x, c.long, 2)
		mustPick(t, x, c.in, 3, 102)
		mustPut(t, x, c.long, 3)
		mustPick(t, x, c.in, 3, 103)
		mustTake(t, x, c.long)
		mustPick(t, x, c.in, 3, 101)
		mustBatch(t, x, put(t, c.long, 4), put(t, c.short, 5))
		mustPick(t, x, c.in, 3, 104)
		mustFail(t, x, 3, api.ErrKind, put(t, c.long, 6), take(t, c.short), put(t, c.short, 7), api.Change{})
		mustPick(t, x, c.in, 3, 104)
		mustFail(t, x, 2, api.ErrRoute, take(t, c.long), take(t, c.short), take(t, c.long))
		mustPick(t, x, c.in, 3, 104)
		mustBatch(t, x, take(t, c.long))
		mustPick(t, x, c.in, 3, 105)
		mustTake(t, x, c.short)
		checkPickError(t, x, at(t, c.in), 3, api.ErrRoute)
	}
}

func TestP10GroupsOfTheSameNumber(t *testing.T) {
	x := tableOfWays(t)
	mustPut(t, x, "10.0.0.0/8", 1)
	mustPick(t, x, "10.1.2.3", 0, 101)
	checkDrop(t, x, 1, api.ErrBusy)
	mustPick(t, x, "10.1.2.3", 0, 101)
	mustTake(t, x, "10.0.0.0/8")
	mustDrop(t, x, 1)
	mustGroup(t, x, 1, 70, 71)
	mustPut(t, x, "10.0.0.0/8", 1)
	for _, flow := range flows {
		mustPick(t, x, "10.1.2.3", flow, 70+int(mixedByHand(flow^5)%2))
	}
	y := fullTable(t)
	mustPut(t, y, "10.0.0.0/8", 31)
	for _, flow := range flows {
		mustPick(t, y, "10.1.2.3", flow, []int{31, 32, 65535}[mixedByHand(flow^1)%3])
	}
}

func TestP10AddressesThatNoRouteContains(t *testing.T) {
	x := tableOfWays(t)
	for _, text := range []string{"0.0.0.0", "10.0.0.0", "255.255.255.255", "0:0:0:0:0:0:0:0", "ffff:0:0:0:0:0:0:1"} {
		checkPickError(t, x, at(t, text), 1, api.ErrRoute)
	}
	mustPut(t, x, "10.1.0.0/16", 1)
	mustPut(t, x, "10.1.2.128/25", 2)
	mustPut(t, x, "1:0:0:0:0:0:0:0/64", 3)
	for _, flow := range flows {
		for _, text := range []string{"10.0.255.255", "10.2.0.0", "138.1.0.0", "1:0:0:1:0:0:0:0", "0:ffff:ffff:ffff:ffff:ffff:ffff:ffff", "0:0:0:0:0:0:a01:203"} {
			checkPickError(t, x, at(t, text), flow, api.ErrRoute)
		}
	}
	// A route of one family contains no address of the other.
	y := tableOfWays(t)
	mustPut(t, y, "0.0.0.0/0", 1)
	checkPickError(t, y, at(t, "0:0:0:0:0:0:0:0"), 0, api.ErrRoute)
	mustPick(t, y, "0.0.0.0", 0, 101)
	mustTake(t, y, "0.0.0.0/0")
	mustPut(t, y, "0:0:0:0:0:0:0:0/0", 1)
	checkPickError(t, y, at(t, "0.0.0.0"), 0, api.ErrRoute)
	mustPick(t, y, "0:0:0:0:0:0:0:0", 0, 101)
}

func TestP10WrongAddresses(t *testing.T) {
	for _, x := range []*waymark.Table{tableOfWays(t), tableOfHops(t, 1, 7, 8), tableOfHops(t, 1, 9)} {
		for _, flow := range []uint64{0, 1, math.MaxUint64} {
			for _, family := range wrongFamilies {
				for _, w := range words {
					checkPickError(t, x, api.Addr{Family: family, Lo: w}, flow, api.ErrFamily)
					checkPickError(t, x, api.Addr{Family: family, Hi: w, Lo: w}, flow, api.ErrFamily)
				}
			}
			for _, w := range []uint64{1 << 32, 1<<32 + 1, 1 << 63, math.MaxUint64} {
				checkPickError(t, x, api.Addr{Family: api.V4, Lo: w}, flow, api.ErrAddr)
			}
			for _, w := range []uint64{1, 1 << 31, 1 << 32, math.MaxUint64} {
				checkPickError(t, x, api.Addr{Family: api.V4, Hi: w}, flow, api.ErrAddr)
				checkPickError(t, x, api.Addr{Family: api.V4, Hi: w, Lo: w}, flow, api.ErrAddr)
			}
		}
	}
}

func TestP10DrawnTablesAsTheModel(t *testing.T) {
	r := rand.New(rand.NewSource(11))
	for range 40 {
		seed := r.Uint64()
		x := seededTable(t, seed, 1)
		hops := [][]int{{4}, {1, 2, 3}, {9, 8, 7, 6, 5, 4, 3, 2}, {0, 65535}}
		for g, l := range hops {
			mustGroup(t, x, g, l...)
		}
		for range 20 {
			family := api.V4 + r.Intn(2)*2
			checkPut(t, x, api.Route{Prefix: drawnPrefix(r, family, []int{0, 1, 8, 16, 24, 31, 32}), Group: r.Intn(4)}, api.OK)
		}
		for _, family := range []int{api.V4, api.V6} {
			routes, _ := x.Dump(family)
			q := newQuestions(family, routes)
			for _, a := range q.addresses() {
				flow := r.Uint64()
				found := q.lookup(bitsOf(api.Prefix{Addr: a, Len: widthOf(family)}))
				if found.Group == api.None {
					checkPickError(t, x, a, flow, api.ErrRoute)
					continue
				}
				l := hops[found.Group]
				want := l[mixedByHand(flow^seed)%uint64(len(l))]
				if h, e := x.Pick(a, flow); h != want || e != api.OK {
					t.Fatalf("Pick(%+v, %#x) = %d, %d, want %d", a, flow, h, e, want)
				}
			}
		}
	}
}
