// Package waymark: the way of packets, by few questions: see DOC.md.
package waymark

import (
	"waymark/address"
	"waymark/api"
	"waymark/entries"
	"waymark/groups"
	"waymark/mixing"
	"waymark/packets"
	"waymark/routes"
	"waymark/texts"
)

// Table is a table of routes and groups, with what New was given for it.
type Table struct {
	limit  int
	seed   uint64
	own    uint32
	groups groups.Groups
	routes routes.Routes
}

// Parse reads a prefix (P3).
func Parse(text string) (api.Prefix, api.Errno) {
	return texts.Parse(text)
}

// Format writes a prefix (P3).
func Format(p api.Prefix) (string, api.Errno) {
	return texts.Format(p)
}

// New makes a table (P4).
func New(limit int, seed uint64, own uint32) (*Table, api.Errno) {
	if limit < 1 || limit > api.MaxRoutes {
		return nil, api.ErrLimit
	}
	return &Table{limit: limit, seed: seed, own: own}, api.OK
}

// Group makes a group (P5).
func (t *Table) Group(hops []int) (int, api.Errno) {
	return t.groups.Add(hops)
}

// Hops tells a group's hops (P5).
func (t *Table) Hops(group int) ([]int, api.Errno) {
	return t.groups.Hops(group)
}

// Drop takes a group away (P5).
func (t *Table) Drop(group int) api.Errno {
	if !t.groups.Has(group) {
		return api.ErrGroup
	}
	if t.routes.HaveGroup(group) {
		return api.ErrBusy
	}
	t.groups.Remove(group)
	return api.OK
}

// Put puts a route into the table (P6).
func (t *Table) Put(r api.Route) api.Errno {
	e := address.Check(r.Prefix)
	if e != api.OK {
		return e
	}
	if !t.groups.Has(r.Group) {
		return api.ErrGroup
	}
	return t.routes.Put(r, t.limit)
}

// Take takes a route away (P6).
func (t *Table) Take(p api.Prefix) api.Errno {
	e := address.Check(p)
	if e != api.OK {
		return e
	}
	return t.routes.Take(p)
}

// Dump tells all routes of a family (P6).
func (t *Table) Dump(family int) ([]api.Route, api.Errno) {
	if address.Width(family) == 0 {
		return nil, api.ErrFamily
	}
	return t.routes.Of(family), api.OK
}

// Batch makes changes, all or none (P7).
func (t *Table) Batch(l []api.Change) (int, api.Errno) {
	// The changes are tried on a table with routes of its own, so that none has to be undone.
	trial := *t
	trial.routes = t.routes.Copy()
	for i := 0; i < len(l); i++ {
		e := trial.change(l[i])
		if e != api.OK {
			return i, e
		}
	}
	t.routes = trial.routes
	return len(l), api.OK
}

// change makes one change of a batch.
func (t *Table) change(c api.Change) api.Errno {
	switch c.Kind {
	case api.Put:
		return t.Put(c.Route)
	case api.Take:
		return t.Take(c.Route.Prefix)
	}
	return api.ErrKind
}

// Lengths tells the lengths that routes have (P8).
func (t *Table) Lengths(family int) ([]int, api.Errno) {
	if address.Width(family) == 0 {
		return nil, api.ErrFamily
	}
	l := t.routes.Of(family)
	return entries.Lengths(l), api.OK
}

// Entries tells what lies at a length (P8).
func (t *Table) Entries(family int, length int) ([]api.Entry, api.Errno) {
	e := address.CheckLength(family, length)
	if e != api.OK {
		return nil, e
	}
	l := t.routes.Of(family)
	return entries.At(l, length), api.OK
}

// Lookup finds the longest route that contains an address (P9).
func (t *Table) Lookup(a api.Addr) (api.Found, api.Errno) {
	e := address.CheckAddress(a)
	if e != api.OK {
		return api.Found{}, e
	}
	l := t.routes.Of(a.Family)
	return entries.Lookup(l, a), api.OK
}

// Pick tells by which hop a flow goes (P10).
func (t *Table) Pick(a api.Addr, flow uint64) (int, api.Errno) {
	found, e := t.Lookup(a)
	if e != api.OK {
		return 0, e
	}
	if found.Group == api.None {
		return 0, api.ErrRoute
	}
	mixed := mixing.Mix(flow ^ t.seed)
	return t.groups.HopFor(found.Group, mixed)
}

// Forward tells what becomes of a packet (P11).
func (t *Table) Forward(packet string) api.Verdict {
	p, reason := packets.Read(packet)
	if reason != api.NoReason {
		return api.Verdict{Kind: api.Dropped, Reason: reason}
	}
	target := p.Target()
	flow := p.Flow()
	hop, e := t.Pick(target, flow)
	// The target is an address: that no route contains it is the one error there can be.
	if e != api.OK {
		return t.sendBack(p, api.NoRoute)
	}
	if hop == 0 {
		return api.Verdict{Kind: api.Delivered, Out: p.Text()}
	}
	if !p.CanGoOn() {
		return t.sendBack(p, api.Expired)
	}
	return api.Verdict{Kind: api.Forwarded, Hop: hop, Out: p.Older()}
}

// sendBack answers a packet that can't go on, or drops it, if it may not be answered.
func (t *Table) sendBack(p packets.Packet, reason int) api.Verdict {
	if !p.MayBeAnswered() {
		return api.Verdict{Kind: api.Dropped, Reason: reason}
	}
	return api.Verdict{Kind: api.Answered, Reason: reason, Out: p.Answer(t.own, reason)}
}
