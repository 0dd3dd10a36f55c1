// Package routes: the routes that a table keeps.
package routes

import "waymark/api"

// Routes: the routes of both families, no two with the same prefix. They are kept in order, so that those of a family stand as Dump tells them.
type Routes struct {
	list []api.Route
}

// Put gives the route with this prefix this group. If it is not there yet, it is from now on, unless there are limit routes.
func (r *Routes) Put(one api.Route, limit int) api.Errno {
	at := r.place(one.Prefix)
	if r.isAt(at, one.Prefix) {
		r.list[at].Group = one.Group
		return api.OK
	}
	if len(r.list) >= limit {
		return api.ErrFull
	}
	r.list = append(r.list, one)
	for i := len(r.list) - 1; i > at; i-- {
		r.list[i] = r.list[i-1]
	}
	r.list[at] = one
	return api.OK
}

// Take takes the route with this prefix away.
func (r *Routes) Take(p api.Prefix) api.Errno {
	at := r.place(p)
	if !r.isAt(at, p) {
		return api.ErrRoute
	}
	for i := at + 1; i < len(r.list); i++ {
		r.list[i-1] = r.list[i]
	}
	r.list = r.list[:len(r.list)-1]
	return api.OK
}

// Of tells the routes of a family, in rising order of their addresses, then of their lengths.
func (r *Routes) Of(family int) []api.Route {
	l := []api.Route{}
	for i := 0; i < len(r.list); i++ {
		if r.list[i].Prefix.Addr.Family == family {
			l = append(l, r.list[i])
		}
	}
	return l
}

// HaveGroup tells whether a route has the group.
func (r *Routes) HaveGroup(group int) bool {
	for i := 0; i < len(r.list); i++ {
		if r.list[i].Group == group {
			return true
		}
	}
	return false
}

// Copy tells the same routes in a list of their own, as Put and Take write into the list that is there.
func (r *Routes) Copy() Routes {
	return Routes{list: append([]api.Route{}, r.list...)}
}

// place tells how many routes stand ahead of this prefix.
func (r *Routes) place(p api.Prefix) int {
	for i := 0; i < len(r.list); i++ {
		if !ahead(r.list[i].Prefix, p) {
			return i
		}
	}
	return len(r.list)
}

// isAt tells whether the route at this place has this prefix.
func (r *Routes) isAt(at int, p api.Prefix) bool {
	if at < 0 || at >= len(r.list) {
		return false
	}
	return r.list[at].Prefix == p
}

// ahead tells whether p stands ahead of q.
func ahead(p, q api.Prefix) bool {
	if p.Addr.Family != q.Addr.Family {
		return p.Addr.Family < q.Addr.Family
	}
	if p.Addr.Hi != q.Addr.Hi {
		return p.Addr.Hi < q.Addr.Hi
	}
	if p.Addr.Lo != q.Addr.Lo {
		return p.Addr.Lo < q.Addr.Lo
	}
	return p.Len < q.Len
}
