package waymark_test

import (
	"fmt"
	"maps"
	"math/rand"
	"slices"
	"testing"

	"waymark/api"
)

// tableModel: a table, told by maps.
type tableModel struct {
	limit  int
	groups model
	routes map[api.Prefix]int
}

func (m *tableModel) put(r api.Route) api.Errno {
	if _, e := expected(written(r.Prefix)); e != api.OK {
		return api.ErrAddr
	}
	if _, there := m.groups[r.Group]; !there {
		return api.ErrGroup
	}
	if _, there := m.routes[r.Prefix]; !there && len(m.routes) == m.limit {
		return api.ErrFull
	}
	m.routes[r.Prefix] = r.Group
	return api.OK
}

func (m *tableModel) take(p api.Prefix) api.Errno {
	if _, e := expected(written(p)); e != api.OK {
		return api.ErrAddr
	}
	if _, there := m.routes[p]; !there {
		return api.ErrRoute
	}
	delete(m.routes, p)
	return api.OK
}

func (m *tableModel) batch(l []api.Change) (int, api.Errno) {
	before := maps.Clone(m.routes)
	for i, c := range l {
		e := api.ErrKind
		if c.Kind == api.Put {
			e = m.put(c.Route)
		}
		if c.Kind == api.Take {
			e = m.take(c.Route.Prefix)
		}
		if e != api.OK {
			m.routes = before
			return i, e
		}
	}
	return len(l), api.OK
}

func (m *tableModel) drop(group int) api.Errno {
	if _, there := m.groups[group]; there && slices.Contains(slices.Collect(maps.Values(m.routes)), group) {
		return api.ErrBusy
	}
	return m.groups.drop(group)
}

// dump sorts the routes by a text of their bits, all of one width.
func (m *tableModel) dump(family int) []api.Route {
	byBits := map[string]api.Route{}
	for p, g := range m.routes {
		if p.Addr.Family == family {
			byBits[fmt.Sprintf("%064b%064b%03d", p.Addr.Hi, p.Addr.Lo, p.Len)] = api.Route{Prefix: p, Group: g}
		}
	}
	l := []api.Route{}
	for _, bits := range slices.Sorted(maps.Keys(byBits)) {
		l = append(l, byBits[bits])
	}
	return l
}

// randomRoute: its prefix is often that of a route that is there, else one of a few, and now and then not good.
func randomRoute(r *rand.Rand, there []api.Route) api.Route {
	if len(there) > 0 && r.Intn(2) == 0 {
		return api.Route{Prefix: there[r.Intn(len(there))].Prefix, Group: r.Intn(7) - 1}
	}
	family := api.V4 + r.Intn(2)*2
	length := r.Intn(widthOf(family) + 1)
	hi, lo := uint64(r.Intn(3))<<62, uint64(r.Intn(3))<<62
	if family == api.V4 {
		hi, lo = 0, lo>>32
	}
	if r.Intn(10) > 0 {
		length = []int{0, 2, 3, 64, 128}[r.Intn(family-1)]
		if length > widthOf(family) {
			length = widthOf(family)
		}
		hi, lo = cutByHand(family, hi, lo, length)
	}
	return api.Route{Prefix: prefix(family, hi, lo, length), Group: r.Intn(7) - 1}
}

func randomChanges(r *rand.Rand, there []api.Route) []api.Change {
	l := make([]api.Change, r.Intn(6))
	for i := range l {
		l[i] = api.Change{Kind: 1 + r.Intn(2), Route: randomRoute(r, there)}
		if r.Intn(30) == 0 {
			l[i].Kind = r.Intn(5) - 1
		}
	}
	return l
}

func TestP6AndP7ManyCallsAsTheModel(t *testing.T) {
	for _, limit := range []int{1, 3, 8, 12, 256} {
		r := rand.New(rand.NewSource(int64(limit)))
		x, m := newTable(t, limit), &tableModel{limit, model{}, map[api.Prefix]int{}}
		for range 10000 {
			call, n, e, wantN, want := "", 0, api.OK, 0, api.OK
			there := append(m.dump(api.V4), m.dump(api.V6)...)
			switch one := randomRoute(r, there); r.Intn(8) {
			case 0:
				call = "Group"
				n, e = x.Group([]int{one.Group + 1})
				wantN, want = m.groups.group([]int{one.Group + 1})
			case 1:
				call, e, want = "Drop", x.Drop(one.Group), m.drop(one.Group)
			case 2, 3, 4:
				call, e, want = "Put", x.Put(one), m.put(one)
			case 5:
				call, e, want = "Take", x.Take(one.Prefix), m.take(one.Prefix)
			default:
				l := randomChanges(r, there)
				call = "Batch"
				n, e = x.Batch(l)
				wantN, want = m.batch(l)
			}
			if n != wantN || e != want {
				t.Fatalf("%s = %d, %d, want %d, %d", call, n, e, wantN, want)
			}
			for _, family := range []int{api.V4, api.V6} {
				if l, e := x.Dump(family); !slices.Equal(l, m.dump(family)) || e != api.OK {
					t.Fatalf("behind %s: Dump(%d) = %v, %d, want %v", call, family, l, e, m.dump(family))
				}
			}
		}
	}
}
