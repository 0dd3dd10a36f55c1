package tree_test

import (
	"math/bits"
	"slices"
	"testing"

	"waymark/tree"
)

// rising: count lengths, none of which is its own place.
func rising(count int) []int {
	l := []int{}
	for i := range count {
		l = append(l, 3*i+1)
	}
	return l
}

// ways tells by places, told from lo on, the way of each.
func ways(l []int, lo int, ahead []int, out [][]int) {
	if len(l) == 0 {
		return
	}
	node := (lo+lo+len(l))/2 - lo
	way := append(slices.Clone(ahead), l[node])
	out[lo+node] = way
	ways(l[:node], lo, way, out)
	ways(l[node+1:], lo+node+1, way, out)
}

func TestNodesAndTrees(t *testing.T) {
	whole := tree.Over(4)
	if whole.IsEmpty() || whole.Node() != 2 {
		t.Errorf("the node of four places is %d", whole.Node())
	}
	if s := whole.Shorter(); s.IsEmpty() || s.Node() != 1 || s.Shorter().Node() != 0 || !s.Longer().IsEmpty() || !s.Shorter().Shorter().IsEmpty() {
		t.Errorf("ahead of place 2 of four: %+v", s)
	}
	if l := whole.Longer(); l.IsEmpty() || l.Node() != 3 || !l.Longer().IsEmpty() || !l.Shorter().IsEmpty() {
		t.Errorf("behind place 2 of four: %+v", l)
	}
	if !tree.Over(0).IsEmpty() || tree.Over(1).IsEmpty() {
		t.Errorf("a tree over no place, or one over one place, is wrong")
	}
}

func TestWayOfEveryLength(t *testing.T) {
	for count := range 140 {
		l := rising(count)
		want := make([][]int, count)
		ways(l, 0, nil, want)
		for i, n := range l {
			got := []int{}
			for _, m := range l {
				if tree.IsOnWay(l, m, n) {
					got = append(got, m)
				}
				if tree.IsOnWay(l, m+1, n) || tree.IsOnWay(l, m-1, n) {
					t.Errorf("of %d lengths: one that is none is on the way of %d", count, n)
				}
			}
			slices.Sort(want[i])
			if !slices.Equal(got, want[i]) {
				t.Errorf("of %d lengths: on the way of %d are %v, want %v", count, n, got, want[i])
			}
			if len(got) > bits.Len(uint(count)) {
				t.Errorf("of %d lengths: %d are on the way of %d", count, len(got), n)
			}
		}
	}
	if tree.IsOnWay(nil, 1, 1) {
		t.Errorf("of no lengths one is on a way")
	}
}
