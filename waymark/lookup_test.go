package waymark_test

import (
	"math"
	"math/bits"
	"testing"

	"waymark/api"
	"waymark/waymark"
)

func TestP9DocumentExamples(t *testing.T) {
	x := tableOfDocument(t)
	mustLookup(t, x, "10.1.2.3", 24, 0, 16, 24)
	mustLookup(t, x, "10.1.9.9", 16, 1, 16, 24)
	mustLookup(t, x, "10.9.9.9", 8, 0, 16, 8)
	mustLookup(t, x, "11.0.0.0", 0, 1, 16, 8, 0)
	mustTake(t, x, "10.1.0.0/16")
	mustPut(t, x, "11.5.0.0/24", 1)
	mustLookup(t, x, "11.9.0.0", 0, 1, 8, 24)
	mustLookup(t, x, "11.5.0.255", 24, 1, 8, 24)
	mustLookup(t, x, "10.1.9.9", 8, 0, 8, 24)
	mustLookup(t, x, "12.0.0.0", 0, 1, 8, 0)
}

func TestP9EmptyFamily(t *testing.T) {
	x := tableOfTwo(t, 10)
	mustLookup(t, x, "0.0.0.0", api.None, api.None)
	mustLookup(t, x, "255.255.255.255", api.None, api.None)
	mustLookup(t, x, "0:0:0:0:0:0:0:0", api.None, api.None)
	mustPut(t, x, "0.0.0.0/0", 0)
	mustLookup(t, x, "0:0:0:0:0:0:0:0", api.None, api.None)
	mustLookup(t, x, "0:0:0:0:0:0:a01:203", api.None, api.None)
	mustLookup(t, x, "10.1.2.3", 0, 0, 0)
	mustTake(t, x, "0.0.0.0/0")
	mustPut(t, x, "0:0:0:0:0:0:0:0/0", 1)
	mustLookup(t, x, "10.1.2.3", api.None, api.None)
	mustLookup(t, x, "ffff:ffff:ffff:ffff:ffff:ffff:ffff:ffff", 0, 1, 0)
}

// tableOfSeven: the lengths 4 to 28; the tree: 16, with 8 (4 and 12) and 24 (20 and 28).
func tableOfSeven(t *testing.T) *waymark.Table {
	t.Helper()
	x := tableOfTwo(t, 20)
	mustPut(t, x, "16.0.0.0/4", 0)
	mustPut(t, x, "16.0.0.0/8", 1)
	mustPut(t, x, "32.0.0.0/12", 0)
	mustPut(t, x, "48.0.0.0/16", 0)
	mustPut(t, x, "64.0.0.0/20", 1)
	mustPut(t, x, "80.0.0.0/24", 0)
	mustPut(t, x, "16.1.2.16/28", 1)
	return x
}

func TestP9WhatIsAskedAndInWhichOrder(t *testing.T) {
	x := tableOfSeven(t)
	mustLookup(t, x, "16.1.2.17", 28, 1, 16, 24, 28)
	mustLookup(t, x, "80.0.0.9", 24, 0, 16, 24, 28)
	mustLookup(t, x, "64.0.15.255", 20, 1, 16, 24, 20)
	mustLookup(t, x, "48.0.255.255", 16, 0, 16, 24, 20)
	mustLookup(t, x, "32.0.0.1", 12, 0, 16, 8, 12)
	mustLookup(t, x, "16.2.0.0", 8, 1, 16, 8, 12)
	mustLookup(t, x, "17.0.0.0", 4, 0, 16, 8, 4)
	mustLookup(t, x, "31.255.255.255", 4, 0, 16, 8, 4)
}

// Marks that lead on to no longer route: the answer is what was best at the last of them.
func TestP9MarksThatLeadAstray(t *testing.T) {
	x := tableOfSeven(t)
	mustLookup(t, x, "16.1.2.33", 8, 1, 16, 24, 28)
	mustLookup(t, x, "16.1.3.1", 8, 1, 16, 24, 20)
	mustLookup(t, x, "64.0.16.0", api.None, api.None, 16, 24, 20)
	mustLookup(t, x, "32.200.0.0", api.None, api.None, 16, 8, 12)
	// A route between the marks' lengths, that is none of the marks' own, is their Best too.
	mustPut(t, x, "16.1.0.0/20", 0)
	mustLookup(t, x, "16.1.2.33", 20, 0, 16, 24, 28)
	mustLookup(t, x, "16.1.3.1", 20, 0, 16, 24, 20)
	mustLookup(t, x, "16.1.16.1", 8, 1, 16, 24, 20)
	mustPut(t, x, "16.1.0.0/16", 1)
	mustLookup(t, x, "16.1.16.1", 16, 1, 16, 24, 20)
	mustTake(t, x, "16.1.0.0/20")
	mustLookup(t, x, "16.1.2.33", 16, 1, 16, 24, 28)
}

func TestP9AddressesThatNoRouteContains(t *testing.T) {
	x := tableOfSeven(t)
	for _, text := range []string{"0.0.0.0", "15.255.255.255", "33.0.0.0", "48.1.0.0", "200.0.0.0", "255.255.255.255"} {
		f, e := x.Lookup(at(t, text))
		if f.Len != api.None || f.Group != api.None || e != api.OK {
			t.Errorf("Lookup(%s) = %+v, %d, want None, None, OK", text, f, e)
		}
	}
	mustLookup(t, x, "200.0.0.0", api.None, api.None, 16, 8, 4)
	mustPut(t, x, "0.0.0.0/0", 1)
	mustLookup(t, x, "200.0.0.0", 0, 1, 16, 8, 4, 0)
}

func TestP9LongestOfManyThatContainIt(t *testing.T) {
	for _, family := range []int{api.V4, api.V6} {
		x := tableOfTwo(t, 256)
		for n := range widthOf(family) + 1 {
			checkPut(t, x, api.Route{Prefix: ones(family, n), Group: n % 2}, api.OK)
			if f, e := x.Lookup(uppermost(family)); f.Len != n || f.Group != n%2 || e != api.OK {
				t.Errorf("of the lengths 0 to %d: Lookup = %+v, %d", n, f, e)
			}
		}
		// Each address whose first n bits are 1 and the next one 0 goes by the route of length n.
		for n := range widthOf(family) {
			if f, e := x.Lookup(ones(family, n).Addr); f.Len != n || f.Group != n%2 || e != api.OK {
				t.Errorf("of all lengths: Lookup of %d bits = %+v, %d", n, f, e)
			}
		}
		checkQuestions(t, x, family)
	}
}

func TestP9V6(t *testing.T) {
	x := tableOfTwo(t, 10)
	mustPut(t, x, "0:0:0:0:0:0:0:0/0", 0)
	mustPut(t, x, "1:0:0:0:0:0:0:0/64", 1)
	mustPut(t, x, "1:0:0:0:0:0:0:9/128", 0)
	mustPut(t, x, "2:0:0:0:0:0:0:7/128", 1)
	mustLookup(t, x, "1:0:0:0:0:0:0:9", 128, 0, 64, 128)
	mustLookup(t, x, "1:0:0:0:0:0:0:8", 64, 1, 64, 128)
	mustLookup(t, x, "1:0:0:0:ffff:ffff:ffff:ffff", 64, 1, 64, 128)
	mustLookup(t, x, "1:0:0:1:0:0:0:9", 0, 0, 64, 0)
	mustLookup(t, x, "2:0:0:0:0:0:0:6", 0, 0, 64, 128)
	mustLookup(t, x, "2:0:0:0:0:0:0:7", 128, 1, 64, 128)
	mustLookup(t, x, "3:0:0:0:0:0:0:9", 0, 0, 64, 0)
}

func TestP9GroupsThatRoutesHaveNow(t *testing.T) {
	x := tableOfDocument(t)
	mustPut(t, x, "10.1.2.0/24", 1)
	mustLookup(t, x, "10.1.2.3", 24, 1, 16, 24)
	mustBatch(t, x, put(t, "10.1.2.0/24", 0), put(t, "0.0.0.0/0", 0))
	mustLookup(t, x, "10.1.2.3", 24, 0, 16, 24)
	mustLookup(t, x, "11.0.0.0", 0, 0, 16, 8, 0)
	mustFail(t, x, 2, api.ErrGroup, put(t, "10.1.2.0/24", 1), take(t, "0.0.0.0/0"), put(t, "0.0.0.0/0", 7))
	mustLookup(t, x, "10.1.2.3", 24, 0, 16, 24)
	mustLookup(t, x, "11.0.0.0", 0, 0, 16, 8, 0)
	y := fullTable(t)
	mustPut(t, y, "10.0.0.0/8", 31)
	mustLookup(t, y, "10.0.0.0", 8, 31, 8)
}

func checkLookupError(t *testing.T, x *waymark.Table, a api.Addr, want api.Errno) {
	t.Helper()
	if f, e := x.Lookup(a); f.Len != 0 || f.Group != 0 || len(f.Asked) != 0 || e != want {
		t.Errorf("Lookup(%+v) = %+v, %d, want noughts, %d", a, f, e, want)
	}
}

func TestP9WrongAddresses(t *testing.T) {
	full := tableOfTwo(t, 10)
	mustPut(t, full, "0.0.0.0/0", 1)
	mustPut(t, full, "0.0.0.0/32", 1)
	mustPut(t, full, "0:0:0:0:0:0:0:0/0", 1)
	for _, x := range []*waymark.Table{tableOfTwo(t, 1), full} {
		for _, family := range wrongFamilies {
			// ErrFamily goes ahead of ErrAddr.
			for _, w := range words {
				checkLookupError(t, x, api.Addr{Family: family, Hi: w}, api.ErrFamily)
				checkLookupError(t, x, api.Addr{Family: family, Lo: w}, api.ErrFamily)
				checkLookupError(t, x, api.Addr{Family: family, Hi: w, Lo: w}, api.ErrFamily)
			}
		}
		for _, w := range []uint64{1, 1 << 31, 1 << 32, 1 << 63, math.MaxUint64} {
			checkLookupError(t, x, api.Addr{Family: api.V4, Hi: w}, api.ErrAddr)
			checkLookupError(t, x, api.Addr{Family: api.V4, Hi: w, Lo: w}, api.ErrAddr)
		}
		for _, w := range []uint64{1 << 32, 1<<32 + 1, 1 << 63, math.MaxUint64} {
			checkLookupError(t, x, api.Addr{Family: api.V4, Lo: w}, api.ErrAddr)
		}
		for _, w := range words {
			if _, e := x.Lookup(api.Addr{Family: api.V6, Hi: w, Lo: w}); e != api.OK {
				t.Errorf("Lookup of V6 with %d twice: %d, want OK", w, e)
			}
		}
	}
}

// P12's bound is met in tables of 0 to all lengths of a family, with routes at both ends of it.
func TestP12TablesOfEveryNumberOfLengths(t *testing.T) {
	for _, family := range []int{api.V4, api.V6} {
		width := widthOf(family)
		x := tableOfTwo(t, 256)
		for k := range width + 2 {
			mustAskFew(t, x, family, k)
			if k > width {
				break
			}
			// Lengths in an order that goes once through all of them, as 33 and 129 are no multiples of 7.
			length := k * 7 % (width + 1)
			p := ones(family, length)
			if k%3 == 0 {
				p = prefix(family, 0, 0, length)
			}
			checkPut(t, x, api.Route{Prefix: p}, api.OK)
		}
		for k := width; k >= 0; k-- {
			l, _ := x.Dump(family)
			checkTake(t, x, l[k*5%len(l)].Prefix, api.OK)
			mustAskFew(t, x, family, k)
		}
	}
}

// mustAskFew: k lengths are there, and no more are asked than k has binary digits.
func mustAskFew(t *testing.T, x *waymark.Table, family, k int) {
	t.Helper()
	if l, e := x.Lengths(family); len(l) != k || e != api.OK {
		t.Fatalf("Lengths(%d) = %v, %d, want %d of them", family, l, e, k)
	}
	up := uppermost(family)
	for n := range widthOf(family) + 1 {
		one := ones(family, n).Addr
		for _, a := range []api.Addr{one, {Family: family, Hi: up.Hi ^ one.Hi, Lo: up.Lo ^ one.Lo}} {
			f, e := x.Lookup(a)
			if len(f.Asked) > bits.Len(uint(k)) || e != api.OK {
				t.Fatalf("P12: of %d lengths: Lookup(%+v) = %+v, %d", k, a, f, e)
			}
			if k > 0 && len(f.Asked) == 0 {
				t.Fatalf("P9: of %d lengths: Lookup(%+v) asked none", k, a)
			}
		}
	}
}
