package waymark_test

import (
	"math"
	"math/rand"
	"slices"
	"testing"

	"waymark/api"
	"waymark/waymark"
)

func TestP4Limits(t *testing.T) {
	for _, limit := range []int{1, 2, 100, 255, 256} {
		for _, seed := range []uint64{0, 1, math.MaxUint64} {
			for _, own := range []uint32{0, 1, math.MaxUint32} {
				if x, e := waymark.New(limit, seed, own); x == nil || e != api.OK {
					t.Errorf("New(%d, %d, %d) = %v, %d, want a table", limit, seed, own, x, e)
				}
			}
		}
	}
	for _, limit := range []int{0, -1, -256, 257, 512, 1 << 32, 1<<32 + 1, math.MaxInt, math.MinInt, math.MinInt + 1} {
		if x, e := waymark.New(limit, 7, 7); x != nil || e != api.ErrLimit {
			t.Errorf("New(%d) = %v, %d, want nil, ErrLimit", limit, x, e)
		}
	}
}

func TestP4NewTableHasNoGroups(t *testing.T) {
	for _, limit := range []int{1, 256} {
		x := newTable(t, limit)
		for g := -1; g <= api.MaxGroups; g++ {
			mustHaveNoGroup(t, x, g)
			if e := x.Drop(g); e != api.ErrGroup {
				t.Errorf("Drop(%d) of a new table = %d, want ErrGroup", g, e)
			}
		}
	}
}

func TestP5DocumentExamples(t *testing.T) {
	x := newTable(t, 10)
	mustGroup(t, x, 0, 7)
	mustGroup(t, x, 1, 8, 9)
	if g, e := x.Group([]int{}); g != 0 || e != api.ErrHops {
		t.Errorf("Group of no hops = %d, %d, want 0, ErrHops", g, e)
	}
	if e := x.Drop(5); e != api.ErrGroup {
		t.Errorf("Drop(5) = %d, want ErrGroup", e)
	}
	mustHops(t, x, 0, 7)
	mustHops(t, x, 1, 8, 9)
}

func TestP5GoodHops(t *testing.T) {
	x := newTable(t, 1)
	for i, hops := range [][]int{
		{0}, {65535}, {1}, {65534}, {0, 65535}, {65535, 0},
		{5, 5}, {5, 4, 5}, {3, 2, 1}, {0, 0, 0, 0, 0, 0, 0, 0}, {8, 7, 6, 5, 4, 3, 2, 1}, {1, 2, 3, 4, 5, 6, 7}, {7},
	} {
		mustGroup(t, x, i, hops...)
		mustHops(t, x, i, hops...)
	}
	mustGroup(t, x, 13, 7)
}

func TestP5WrongHops(t *testing.T) {
	x := newTable(t, 1)
	wrong := [][]int{
		nil, {}, make([]int, 9), make([]int, 10), make([]int, 256), make([]int, 1<<20),
		{-1}, {65536}, {math.MaxInt}, {math.MinInt}, {1 << 32}, {1<<32 + 1},
	}
	for place := range api.MaxHops {
		for _, bad := range []int{-1, 65536} {
			hops := []int{1, 2, 3, 4, 5, 6, 7, 8}
			hops[place] = bad
			wrong = append(wrong, hops)
		}
	}
	for _, hops := range wrong {
		if g, e := x.Group(hops); g != 0 || e != api.ErrHops {
			t.Errorf("Group of %d hops, %.80v = %d, %d, want 0, ErrHops", len(hops), hops[:min(9, len(hops))], g, e)
		}
	}
	mustHaveNoGroup(t, x, 0)
	mustGroup(t, x, 0, 1)
}

func TestP5ThirtyTwoGroups(t *testing.T) {
	x := newTable(t, 1)
	for i := range 32 {
		mustGroup(t, x, i, i, 65535-i)
	}
	for range 3 {
		if g, e := x.Group([]int{1}); g != 0 || e != api.ErrFull {
			t.Errorf("Group of one too many = %d, %d, want 0, ErrFull", g, e)
		}
	}
	for i := range 32 {
		mustHops(t, x, i, i, 65535-i)
	}
	mustDrop(t, x, 31)
	mustGroup(t, x, 31, 4)
	mustDrop(t, x, 0)
	mustGroup(t, x, 0, 4, 4)
	if g, e := x.Group([]int{1}); g != 0 || e != api.ErrFull {
		t.Errorf("Group of one too many = %d, %d, want 0, ErrFull", g, e)
	}
}

func TestP5LowestFreeNumber(t *testing.T) {
	x := newTable(t, 1)
	for i := range 10 {
		mustGroup(t, x, i, i)
	}
	for _, g := range []int{7, 2, 9, 4} {
		mustDrop(t, x, g)
		mustHaveNoGroup(t, x, g)
	}
	for _, g := range []int{2, 4, 7, 9, 10} {
		mustGroup(t, x, g, 100+g)
	}
	for _, g := range []int{0, 1, 3, 5, 6, 8} {
		mustHops(t, x, g, g)
	}
	for _, g := range []int{2, 4, 7, 9, 10} {
		mustHops(t, x, g, 100+g)
	}
}

func TestP5GroupsThatAreNotThere(t *testing.T) {
	x := newTable(t, 1)
	for i := range 3 {
		mustGroup(t, x, i, i+1)
	}
	mustDrop(t, x, 1)
	for _, g := range []int{-1, -32, 1, 3, 31, 32, 33, 64, 256, 1 << 32, 1<<32 + 2, math.MaxInt, math.MinInt} {
		mustHaveNoGroup(t, x, g)
		if e := x.Drop(g); e != api.ErrGroup {
			t.Errorf("Drop(%d) = %d, want ErrGroup", g, e)
		}
	}
	mustHops(t, x, 0, 1)
	mustHops(t, x, 2, 3)
}

// model: the groups of a table, told by a map.
type model map[int][]int

func (m model) lowestFree() int {
	for g := 0; ; g++ {
		if _, there := m[g]; !there {
			return g
		}
	}
}

func (m model) group(hops []int) (int, api.Errno) {
	bad := func(h int) bool { return h < 0 || h > 65535 }
	if len(hops) < 1 || len(hops) > 8 || slices.ContainsFunc(hops, bad) {
		return 0, api.ErrHops
	}
	g := m.lowestFree()
	if g > 31 {
		return 0, api.ErrFull
	}
	m[g] = slices.Clone(hops)
	return g, api.OK
}

func (m model) drop(group int) api.Errno {
	if _, there := m[group]; !there {
		return api.ErrGroup
	}
	delete(m, group)
	return api.OK
}

func TestP5ManyCallsAsTheModel(t *testing.T) {
	r := rand.New(rand.NewSource(5))
	x, m := newTable(t, 1), model{}
	for range 20000 {
		if r.Intn(5) < 3 {
			hops := make([]int, r.Intn(10))
			for i := range hops {
				hops[i] = r.Intn(65535+40) - 19
			}
			g, e := x.Group(hops)
			if h, f := m.group(hops); g != h || e != f {
				t.Fatalf("Group(%v) = %d, %d, want %d, %d", hops, g, e, h, f)
			}
		} else {
			g := r.Intn(36) - 2
			e := x.Drop(g)
			if f := m.drop(g); e != f {
				t.Fatalf("Drop(%d) = %d, want %d", g, e, f)
			}
		}
		g := r.Intn(36) - 2
		l, e := x.Hops(g)
		if want, there := m[g]; there != (e == api.OK) || !slices.Equal(l, want) {
			t.Fatalf("Hops(%d) = %v, %d, want %v", g, l, e, want)
		}
	}
}
