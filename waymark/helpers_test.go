package waymark_test

import (
	"slices"
	"testing"

	"waymark/api"
	"waymark/waymark"
)

func newTable(t *testing.T, limit int) *waymark.Table {
	t.Helper()
	x, e := waymark.New(limit, 1, 0x0a0000fe)
	if x == nil || e != api.OK {
		t.Fatalf("New(%d) = %v, %d", limit, x, e)
	}
	return x
}

func mustGroup(t *testing.T, x *waymark.Table, want int, hops ...int) {
	t.Helper()
	if g, e := x.Group(hops); g != want || e != api.OK {
		t.Fatalf("Group(%v) = %d, %d, want %d, OK", hops, g, e, want)
	}
}

func mustDrop(t *testing.T, x *waymark.Table, group int) {
	t.Helper()
	if e := x.Drop(group); e != api.OK {
		t.Fatalf("Drop(%d) = %d, want OK", group, e)
	}
}

func mustHops(t *testing.T, x *waymark.Table, group int, want ...int) {
	t.Helper()
	if l, e := x.Hops(group); !slices.Equal(l, want) || e != api.OK {
		t.Fatalf("Hops(%d) = %v, %d, want %v, OK", group, l, e, want)
	}
}

func mustHaveNoGroup(t *testing.T, x *waymark.Table, group int) {
	t.Helper()
	if l, e := x.Hops(group); len(l) != 0 || e != api.ErrGroup {
		t.Fatalf("Hops(%d) = %v, %d, want none, ErrGroup", group, l, e)
	}
}

// shown: all that can be seen of the groups of a table.
type shown [api.MaxGroups]struct {
	hops [api.MaxHops]int
	len  int
	e    api.Errno
}

func show(x *waymark.Table) shown {
	var s shown
	for g := range s {
		l, e := x.Hops(g)
		copy(s[g].hops[:], l)
		s[g].len = len(l)
		s[g].e = e
	}
	return s
}
