package waymark_test

import (
	"fmt"
	"math"
	"slices"
	"strings"
	"testing"

	"waymark/api"
	"waymark/waymark"
)

func newTable(t *testing.T, limit int) *waymark.Table {
	t.Helper()
	x, e := waymark.New(limit, 1, 0x0a0000fe)
	if x == nil || e != api.OK {
		t.Fatalf("New(%d) = %v, %d", limit, x, e)
	}
	return x
}

func mustGroup(t *testing.T, x *waymark.Table, want int, hops ...int) {
	t.Helper()
	if g, e := x.Group(hops); g != want || e != api.OK {
		t.Fatalf("Group(%v) = %d, %d, want %d, OK", hops, g, e, want)
	}
}

func mustDrop(t *testing.T, x *waymark.Table, group int) {
	t.Helper()
	if e := x.Drop(group); e != api.OK {
		t.Fatalf("Drop(%d) = %d, want OK", group, e)
	}
}

func mustHops(t *testing.T, x *waymark.Table, group int, want ...int) {
	t.Helper()
	if l, e := x.Hops(group); !slices.Equal(l, want) || e != api.OK {
		t.Fatalf("Hops(%d) = %v, %d, want %v, OK", group, l, e, want)
	}
}

func mustHaveNoGroup(t *testing.T, x *waymark.Table, group int) {
	t.Helper()
	if l, e := x.Hops(group); len(l) != 0 || e != api.ErrGroup {
		t.Fatalf("Hops(%d) = %v, %d, want none, ErrGroup", group, l, e)
	}
}

// read: the prefix of a text.
func read(t *testing.T, text string) api.Prefix {
	t.Helper()
	p, e := waymark.Parse(text)
	if e != api.OK {
		t.Fatalf("Parse(%q) = %d", text, e)
	}
	return p
}

func route(t *testing.T, text string, group int) api.Route {
	t.Helper()
	return api.Route{Prefix: read(t, text), Group: group}
}

func mustPut(t *testing.T, x *waymark.Table, text string, group int) {
	t.Helper()
	checkPut(t, x, route(t, text, group), api.OK)
}

func checkPut(t *testing.T, x *waymark.Table, r api.Route, want api.Errno) {
	t.Helper()
	if e := x.Put(r); e != want {
		t.Fatalf("Put(%+v) = %d, want %d", r, e, want)
	}
}

func mustTake(t *testing.T, x *waymark.Table, text string) {
	t.Helper()
	checkTake(t, x, read(t, text), api.OK)
}

func checkTake(t *testing.T, x *waymark.Table, p api.Prefix, want api.Errno) {
	t.Helper()
	if e := x.Take(p); e != want {
		t.Fatalf("Take(%+v) = %d, want %d", p, e, want)
	}
}

func checkDrop(t *testing.T, x *waymark.Table, group int, want api.Errno) {
	t.Helper()
	if e := x.Drop(group); e != want {
		t.Fatalf("Drop(%d) = %d, want %d", group, e, want)
	}
}

// mustDump: want are the routes as texts with their groups behind them, as "10.0.0.0/8 0".
func mustDump(t *testing.T, x *waymark.Table, family int, want ...string) {
	t.Helper()
	l, e := x.Dump(family)
	got := []string{}
	for _, r := range l {
		got = append(got, fmt.Sprintf("%s %d", written(r.Prefix), r.Group))
	}
	if !slices.Equal(got, want) || e != api.OK {
		t.Fatalf("Dump(%d) = %q, %d, want %q, OK", family, got, e, want)
	}
}

// at: the address of a text without a length.
func at(t *testing.T, text string) api.Addr {
	t.Helper()
	if strings.Contains(text, ":") {
		return read(t, text+"/128").Addr
	}
	return read(t, text+"/32").Addr
}

func mustLengths(t *testing.T, x *waymark.Table, family int, want ...int) {
	t.Helper()
	if l, e := x.Lengths(family); !slices.Equal(l, want) || e != api.OK {
		t.Fatalf("Lengths(%d) = %v, %d, want %v, OK", family, l, e, want)
	}
}

// mustEntries: want are the entries as texts: address, Group, Marks and Best, as "10.1.0.0 1 1 16".
func mustEntries(t *testing.T, x *waymark.Table, family, length int, want ...string) {
	t.Helper()
	l, e := x.Entries(family, length)
	got := []string{}
	for _, one := range l {
		text, _, _ := strings.Cut(written(api.Prefix{Addr: one.Addr}), "/")
		got = append(got, fmt.Sprintf("%s %d %d %d", text, one.Group, one.Marks, one.Best))
		if one.Addr.Family != family {
			t.Fatalf("Entries(%d, %d): an entry of the family %d", family, length, one.Addr.Family)
		}
	}
	if !slices.Equal(got, want) || e != api.OK {
		t.Fatalf("Entries(%d, %d) = %q, %d, want %q, OK", family, length, got, e, want)
	}
}

func mustLookup(t *testing.T, x *waymark.Table, text string, length, group int, asked ...int) {
	t.Helper()
	f, e := x.Lookup(at(t, text))
	if f.Len != length || f.Group != group || !slices.Equal(f.Asked, asked) || e != api.OK {
		t.Fatalf("Lookup(%s) = %+v, %d, want %d, %d, %v, OK", text, f, e, length, group, asked)
	}
}

// shown: packets that show asks for.
var shown = []string{common.made(), lost()[0].made(), lost()[1].made()}

// show: all that can be seen of the groups and routes of a table.
func show(x *waymark.Table) string {
	s := ""
	for g := range api.MaxGroups {
		l, e := x.Hops(g)
		s += fmt.Sprintln("group", g, l, e)
	}
	for _, family := range []int{api.V4, api.V6} {
		l, e := x.Dump(family)
		s += fmt.Sprintln("family", family, l, e)
		s += showQuestions(x, family)
	}
	for _, packet := range shown {
		s += fmt.Sprintf("forward %+x\n", x.Forward(packet))
	}
	return s
}

// showQuestions: the lengths of a family, their entries, and what is found and picked of its lowest and its uppermost address.
func showQuestions(x *waymark.Table, family int) string {
	lengths, e := x.Lengths(family)
	s := fmt.Sprintln("lengths", lengths, e)
	for _, n := range lengths {
		l, e := x.Entries(family, n)
		s += fmt.Sprintln("entries", n, l, e)
	}
	for _, a := range []api.Addr{{Family: family}, uppermost(family)} {
		f, e := x.Lookup(a)
		s += fmt.Sprintln("lookup", a, f, e)
		first, e := x.Pick(a, 0)
		last, _ := x.Pick(a, math.MaxUint64)
		s += fmt.Sprintln("pick", a, first, last, e)
	}
	return s
}

func uppermost(family int) api.Addr {
	if family == api.V4 {
		return api.Addr{Family: api.V4, Lo: math.MaxUint32}
	}
	return api.Addr{Family: family, Hi: math.MaxUint64, Lo: math.MaxUint64}
}

// ones: the prefix of this length whose bits are all 1.
func ones(family, length int) api.Prefix {
	a := uppermost(family)
	hi, lo := cutByHand(family, a.Hi, a.Lo, length)
	return prefix(family, hi, lo, length)
}
