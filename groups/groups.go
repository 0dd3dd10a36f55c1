// Package groups: the groups of hops that a table keeps.
package groups

import "waymark/api"

// Groups: the hops of each group, by its number. As no group is without hops, an empty list means: no group.
type Groups struct {
	lists [api.MaxGroups][]int
}

// Add makes a group with these hops, and answers its number.
func (g *Groups) Add(hops []int) (int, api.Errno) {
	if !goodHops(hops) {
		return 0, api.ErrHops
	}
	for i := 0; i < len(g.lists); i++ {
		if len(g.lists[i]) == 0 {
			g.lists[i] = fresh(hops)
			return i, api.OK
		}
	}
	return 0, api.ErrFull
}

// Has tells whether there is a group of this number.
func (g *Groups) Has(group int) bool {
	if group < 0 || group >= len(g.lists) {
		return false
	}
	return len(g.lists[group]) > 0
}

// Hops tells the hops of a group.
func (g *Groups) Hops(group int) ([]int, api.Errno) {
	if !g.Has(group) {
		return nil, api.ErrGroup
	}
	return fresh(g.lists[group]), api.OK
}

// HopFor tells the hop of a group at the place that a number comes to, modulo how many hops there are.
func (g *Groups) HopFor(group int, number uint64) (int, api.Errno) {
	if !g.Has(group) {
		return 0, api.ErrGroup
	}
	hops := g.lists[group]
	place := number % uint64(len(hops))
	return hops[place], api.OK
}

// Remove takes a group away, if there is one of this number.
func (g *Groups) Remove(group int) {
	if g.Has(group) {
		g.lists[group] = nil
	}
}

// goodHops tells whether these may be the hops of a group.
func goodHops(hops []int) bool {
	if len(hops) == 0 || len(hops) > api.MaxHops {
		return false
	}
	for i := 0; i < len(hops); i++ {
		if hops[i] < 0 || hops[i] > api.MaxHop {
			return false
		}
	}
	return true
}

// fresh copies a list, as neither a list of the caller's is kept nor one of the table's given away.
func fresh(hops []int) []int {
	return append([]int{}, hops...)
}
