// Package waymark: the way of packets, by few questions: see DOC.md.
package waymark

import (
	"waymark/api"
	"waymark/groups"
	"waymark/texts"
)

// Table is a table of routes and groups, with what New was given for it.
type Table struct {
	limit  int
	seed   uint64
	own    uint32
	groups groups.Groups
	routes []api.Route
}

// Parse reads a prefix (P3).
func Parse(text string) (api.Prefix, api.Errno) {
	return texts.Parse(text)
}

// Format writes a prefix (P3).
func Format(p api.Prefix) (string, api.Errno) {
	return texts.Format(p)
}

// New makes a table (P4).
func New(limit int, seed uint64, own uint32) (*Table, api.Errno) {
	if limit < 1 || limit > api.MaxRoutes {
		return nil, api.ErrLimit
	}
	return &Table{limit: limit, seed: seed, own: own}, api.OK
}

// Group makes a group (P5).
func (t *Table) Group(hops []int) (int, api.Errno) {
	return t.groups.Add(hops)
}

// Hops tells a group's hops (P5).
func (t *Table) Hops(group int) ([]int, api.Errno) {
	return t.groups.Hops(group)
}

// Drop takes a group away (P5).
func (t *Table) Drop(group int) api.Errno {
	if !t.groups.Has(group) {
		return api.ErrGroup
	}
	if t.routeHas(group) {
		return api.ErrBusy
	}
	t.groups.Remove(group)
	return api.OK
}

// routeHas tells whether a route has the group.
func (t *Table) routeHas(group int) bool {
	for i := 0; i < len(t.routes); i++ {
		if t.routes[i].Group == group {
			return true
		}
	}
	return false
}

// Put puts a route into the table (P6).
func (t *Table) Put(r api.Route) api.Errno { return api.OK }

// Take takes a route away (P6).
func (t *Table) Take(p api.Prefix) api.Errno { return api.OK }

// Dump tells all routes of a family (P6).
func (t *Table) Dump(family int) ([]api.Route, api.Errno) { return nil, api.OK }

// Batch makes changes, all or none (P7).
func (t *Table) Batch(l []api.Change) (int, api.Errno) { return 0, api.OK }

// Lengths tells the lengths that routes have (P8).
func (t *Table) Lengths(family int) ([]int, api.Errno) { return nil, api.OK }

// Entries tells what lies at a length (P8).
func (t *Table) Entries(family int, length int) ([]api.Entry, api.Errno) { return nil, api.OK }

// Lookup finds the longest route that contains an address (P9).
func (t *Table) Lookup(a api.Addr) (api.Found, api.Errno) { return api.Found{}, api.OK }

// Pick tells by which hop a flow goes (P10).
func (t *Table) Pick(a api.Addr, flow uint64) (int, api.Errno) { return 0, api.OK }

// Forward tells what becomes of a packet (P11).
func (t *Table) Forward(packet string) api.Verdict { return api.Verdict{} }
