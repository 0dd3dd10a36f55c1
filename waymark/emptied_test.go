package waymark_test

import (
	"math/rand"
	"testing"

	"waymark/api"
	"waymark/waymark"
)

// tableOfBoth: routes of V4 have the groups 0 and 1, those of V6 the groups 1 and 2, and none has 3.
func tableOfBoth(t *testing.T) *waymark.Table {
	t.Helper()
	x := tableOfTwo(t, 20)
	mustGroup(t, x, 2, 5)
	mustGroup(t, x, 3, 6)
	for i, text := range []string{"0.0.0.0/0", "10.0.0.0/8", "10.1.0.0/16", "10.1.2.0/24", "10.1.2.3/32", "11.5.0.0/24", "200.0.0.0/8"} {
		mustPut(t, x, text, i%2)
	}
	for i, text := range []string{"0:0:0:0:0:0:0:0/0", "a00:0:0:0:0:0:0:0/8", "a01:0:0:0:0:0:0:0/16", "a01:0:0:0:1:0:0:0/80", "0:0:0:0:0:0:0:1/128"} {
		mustPut(t, x, text, 1+i%2)
	}
	return x
}

// takeAll takes all routes of a family away, in an order that the number tells.
func takeAll(t *testing.T, x *waymark.Table, family int, number int64) {
	t.Helper()
	l, _ := x.Dump(family)
	for _, i := range rand.New(rand.NewSource(number)).Perm(len(l)) {
		checkTake(t, x, l[i].Prefix, api.OK)
		checkQuestions(t, x, family)
	}
}

func TestP13OneFamilyThenTheOther(t *testing.T) {
	for number := range int64(60) {
		// The groups that routes of the first family, and of the other one, have alone.
		first, other, ofFirst, ofOther := api.V4, api.V6, 0, 2
		if number%3 == 0 {
			first, other, ofFirst, ofOther = api.V6, api.V4, 2, 0
		}
		x := tableOfBoth(t)
		before := showQuestions(x, other)
		takeAll(t, x, first, number)
		mustHaveNoEntries(t, x, first)
		if f, e := x.Lookup(uppermost(first)); f.Len != api.None || f.Group != api.None || len(f.Asked) != 0 || e != api.OK {
			t.Fatalf("Lookup in an emptied family = %+v, %d", f, e)
		}
		if now := showQuestions(x, other); now != before {
			t.Fatalf("taking the family %d away made of %v this: %v", first, before, now)
		}
		checkDrop(t, x, ofFirst, api.OK)
		checkDrop(t, x, 1, api.ErrBusy)
		checkDrop(t, x, ofOther, api.ErrBusy)
		checkDrop(t, x, 3, api.OK)
		takeAll(t, x, other, number)
		mustHaveNoEntries(t, x, other)
		checkDrop(t, x, 1, api.OK)
		checkDrop(t, x, ofOther, api.OK)
		for g := range api.MaxGroups {
			checkDrop(t, x, g, api.ErrGroup)
		}
	}
}

func TestP13ByBatches(t *testing.T) {
	x := tableOfBoth(t)
	l, _ := x.Dump(api.V4)
	changes := []api.Change{put(t, "77.7.0.0/17", 3), take(t, "77.7.0.0/17")}
	for i := range l {
		changes = append(changes, api.Change{Kind: api.Take, Route: l[len(l)-1-i]})
	}
	mustFail(t, x, len(changes), api.ErrRoute, append(changes, take(t, "0.0.0.0/0"))...)
	mustBatch(t, x, changes...)
	mustHaveNoEntries(t, x, api.V4)
	checkDrop(t, x, 0, api.OK)
	checkDrop(t, x, 1, api.ErrBusy)
	checkDrop(t, x, 3, api.OK)
}

// What is put behind it is as in a table that never held more.
func TestP13NothingIsLeft(t *testing.T) {
	for _, family := range []int{api.V4, api.V6} {
		x := tableOfTwo(t, 256)
		r := rand.New(rand.NewSource(int64(family)))
		for round := range 5 {
			for range 256 {
				x.Put(api.Route{Prefix: drawnPrefix(r, family, drawnLengths(r, family, 9)), Group: r.Intn(2)})
			}
			l, _ := x.Dump(family)
			for _, i := range r.Perm(len(l)) {
				checkTake(t, x, l[i].Prefix, api.OK)
			}
			mustHaveNoEntries(t, x, family)
			if show(x) != show(tableOfTwo(t, 256)) {
				t.Fatalf("round %d left %v", round, show(x))
			}
		}
		checkDrop(t, x, 0, api.OK)
		checkDrop(t, x, 1, api.OK)
	}
}
