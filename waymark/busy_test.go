package waymark

import (
	"slices"
	"testing"

	"waymark/api"
)

// The routes are laid into the table by hand here: Drop is looked at alone.
func TestP5DropBusyGroup(t *testing.T) {
	x, _ := New(3, 0, 0)
	for i := range 3 {
		x.Group([]int{i})
	}
	v4 := api.Prefix{Addr: api.Addr{Family: api.V4}}
	v6 := api.Prefix{Addr: api.Addr{Family: api.V6}}
	x.routes = []api.Route{{Prefix: v4, Group: 2}, {Prefix: v6, Group: 0}}
	for _, c := range []struct {
		group int
		e     api.Errno
	}{{0, api.ErrBusy}, {2, api.ErrBusy}, {1, api.OK}, {1, api.ErrGroup}, {0, api.ErrBusy}, {3, api.ErrGroup}} {
		if e := x.Drop(c.group); e != c.e {
			t.Errorf("Drop(%d) = %d, want %d", c.group, e, c.e)
		}
	}
	for _, g := range []int{0, 2} {
		if l, e := x.Hops(g); !slices.Equal(l, []int{g}) || e != api.OK {
			t.Errorf("Hops(%d) of a busy group = %v, %d", g, l, e)
		}
	}
	x.routes = x.routes[:1]
	if e := x.Drop(0); e != api.OK {
		t.Errorf("Drop(0), busy no more = %d, want OK", e)
	}
	if e := x.Drop(2); e != api.ErrBusy {
		t.Errorf("Drop(2) = %d, want ErrBusy", e)
	}
}
