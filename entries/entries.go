// Package entries: what lies at the lengths that routes have. The routes that are handed in are those of one family, in rising order of their addresses, no two with the same prefix. Nothing of it is kept: marks hang on all lengths together, so that one change can move many of them.
package entries

import (
	"waymark/address"
	"waymark/api"
	"waymark/tree"
)

// Lengths tells the lengths that the routes have, each once, in rising order.
func Lengths(l []api.Route) []int {
	var has [address.MaxWidth + 1]bool
	for i := 0; i < len(l); i++ {
		n := l[i].Prefix.Len
		if n >= 0 && n < len(has) {
			has[n] = true
		}
	}
	out := []int{}
	for n := 0; n < len(has); n++ {
		if has[n] {
			out = append(out, n)
		}
	}
	return out
}

// At tells the entries at a length, in rising order of their addresses.
func At(l []api.Route, length int) []api.Entry {
	lengths := Lengths(l)
	out := []api.Entry{}
	for i := 0; i < len(l); i++ {
		p := l[i].Prefix
		if p.Len < length || !tree.IsOnWay(lengths, length, p.Len) {
			continue
		}
		a := address.Cut(p.Addr, length)
		// As addresses rise, so do the cut ones: an entry that is there already is the last one.
		if len(out) == 0 || out[len(out)-1].Addr != a {
			one := look(l, lengths, api.Prefix{Addr: a, Len: length})
			out = append(out, one)
		}
	}
	return out
}

// Lookup finds the longest route that contains an address of the routes' family, by questions at few lengths.
func Lookup(l []api.Route, a api.Addr) api.Found {
	lengths := Lengths(l)
	asked := []int{}
	best := api.None
	t := tree.Over(len(lengths))
	for !t.IsEmpty() {
		m := lengths[t.Node()]
		asked = append(asked, m)
		cut := address.Cut(a, m)
		one := look(l, lengths, api.Prefix{Addr: cut, Len: m})
		if isThere(one) {
			// What is asked from here on may all be missing: then this is the answer.
			best = one.Best
			t = t.Longer()
		} else {
			t = t.Shorter()
		}
	}
	return api.Found{Len: best, Group: groupOf(l, a, best), Asked: asked}
}

// look tells the entry with this address at this length: one without route and marks, if there is none.
func look(l []api.Route, lengths []int, at api.Prefix) api.Entry {
	one := api.Entry{Addr: at.Addr, Group: api.None, Best: api.None}
	for i := 0; i < len(l); i++ {
		p := l[i].Prefix
		if p == at {
			one.Group = l[i].Group
		}
		if hasMark(lengths, p, at) {
			one.Marks++
		}
		if address.Contains(p, at) && p.Len > one.Best {
			one.Best = p.Len
		}
	}
	return one
}

// isThere tells whether what look told is an entry.
func isThere(one api.Entry) bool {
	return one.Group != api.None || one.Marks > 0
}

// hasMark tells whether a route with the prefix p has a mark with this address at this length.
func hasMark(lengths []int, p, at api.Prefix) bool {
	if p.Len == at.Len || !address.Contains(at, p) {
		return false
	}
	return tree.IsOnWay(lengths, at.Len, p.Len)
}

// groupOf tells the group of the route of this length that contains the address: None, if there is none.
func groupOf(l []api.Route, a api.Addr, length int) int {
	whole := api.Prefix{Addr: a, Len: address.Width(a.Family)}
	for i := 0; i < len(l); i++ {
		p := l[i].Prefix
		if p.Len == length && address.Contains(p, whole) {
			return l[i].Group
		}
	}
	return api.None
}
