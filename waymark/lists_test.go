package waymark_test

import (
	"slices"
	"testing"

	"waymark/api"
	"waymark/waymark"
)

// scribble writes over a list and all its spare room.
func scribble(l []int) {
	l = l[:cap(l)]
	for i := range l {
		l[i] = -77
	}
}

func TestP2ListsHandedInAreNotWrittenInto(t *testing.T) {
	x := newTable(t, 1)
	for n := range 12 {
		room := []int{5, 1, 4, 1, 3, 9, 2, 6, 5, 3, 5, 8, 9, 7}
		before := slices.Clone(room)
		x.Group(room[:n])
		if !slices.Equal(room, before) {
			t.Errorf("Group of %d hops made of %v this: %v", n, before, room)
		}
	}
	bad := []int{3, 70000, 1, 2}
	x.Group(bad[:2])
	if !slices.Equal(bad, []int{3, 70000, 1, 2}) {
		t.Errorf("Group with an error made this of its list: %v", bad)
	}
	full := fullTable(t)
	in := []int{3, 7, 1, 2}
	full.Group(in[:2])
	if !slices.Equal(in, []int{3, 7, 1, 2}) {
		t.Errorf("Group of a full table made this of its list: %v", in)
	}
}

func TestP2ListsHandedInAreNotKept(t *testing.T) {
	x := newTable(t, 1)
	in := []int{1, 2, 3, 4, 5, 6, 7, 8}
	for n := 1; n <= 8; n++ {
		mustGroup(t, x, n-1, in[:n]...)
	}
	scribble(in)
	for n := 1; n <= 8; n++ {
		mustHops(t, x, n-1, []int{1, 2, 3, 4, 5, 6, 7, 8}[:n]...)
	}
}

func TestP2ListsThatComeOutAreFresh(t *testing.T) {
	x := newTable(t, 1)
	in := []int{1, 2, 3, 4, 5, 6, 7, 8}
	for n := 1; n <= 8; n++ {
		mustGroup(t, x, n-1, in[:n]...)
	}
	for n := 1; n <= 8; n++ {
		first, _ := x.Hops(n - 1)
		second, _ := x.Hops(n - 1)
		scribble(first)
		if !slices.Equal(second, in[:n]) {
			t.Errorf("writing into one list of hops made of another: %v", second)
		}
		scribble(second)
	}
	for n := 1; n <= 8; n++ {
		mustHops(t, x, n-1, in[:n]...)
	}
	if !slices.Equal(in, []int{1, 2, 3, 4, 5, 6, 7, 8}) {
		t.Errorf("writing into lists that came out made of the list handed in: %v", in)
	}
}

func TestP2EmptyListsAreFreshToo(t *testing.T) {
	x := newTable(t, 1)
	l, _ := x.Hops(0)
	scribble(l)
	l = append(l, 9)
	if again, e := x.Hops(0); len(again) != 0 || e != api.ErrGroup || len(l) != 1 {
		t.Errorf("Hops of no group = %v, %d", again, e)
	}
	mustGroup(t, x, 0, 4)
	mustHops(t, x, 0, 4)
}

func TestP2NoLaterCallWritesIntoAList(t *testing.T) {
	x := newTable(t, 1)
	mustGroup(t, x, 0, 1, 2, 3)
	mustGroup(t, x, 1, 4, 5)
	l, _ := x.Hops(0)
	room := l[:cap(l)]
	before := slices.Clone(room)
	mustDrop(t, x, 0)
	mustGroup(t, x, 0, 9, 9, 9, 9, 9, 9, 9, 9)
	x.Hops(0)
	x.Hops(1)
	mustDrop(t, x, 1)
	mustGroup(t, x, 1, 8, 8, 8)
	mustDrop(t, x, 0)
	mustDrop(t, x, 1)
	if !slices.Equal(room, before) {
		t.Errorf("later calls made of %v this: %v", before, room)
	}
}

func TestP2TablesDoNotTouchEachOther(t *testing.T) {
	one, two := newTable(t, 1), newTable(t, 256)
	mustGroup(t, one, 0, 1)
	mustGroup(t, one, 1, 2)
	mustHaveNoGroup(t, two, 0)
	mustGroup(t, two, 0, 3, 3)
	mustDrop(t, one, 0)
	mustHops(t, two, 0, 3, 3)
	mustHops(t, one, 1, 2)
	mustHaveNoGroup(t, two, 1)
}

func TestP2SameCallsSameAnswers(t *testing.T) {
	run := func(x *waymark.Table) shown {
		for i := range 40 {
			x.Group([]int{i, i * i})
			if i%3 == 0 {
				x.Drop(i / 2)
			}
		}
		return show(x)
	}
	first := run(newTable(t, 1))
	for range 5 {
		if again := run(newTable(t, 1)); again != first {
			t.Errorf("the same calls answered %v, then %v", first, again)
		}
	}
	for range 5 {
		if s, e := waymark.Format(prefix(api.V4, 0, 0x0a010000, 16)); s != "10.1.0.0/16" || e != api.OK {
			t.Errorf("Format = %q, %d", s, e)
		}
	}
}
