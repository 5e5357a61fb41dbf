package court_test

import (
	"reflect"
	"slices"
	"testing"

	"tollhouse/api"
	"tollhouse/bond"
	"tollhouse/code"
	"tollhouse/court"
	"tollhouse/ring"
)

// wipe turns all memory that an order's lists have, their spare room too.
func wipe(x court.Tx) {
	clear(x.Rule[:cap(x.Rule)])
	clear(x.Deed.Conds[:cap(x.Deed.Conds)])
	for _, sig := range x.Deed.Sigs {
		clear(sig.Way[:cap(sig.Way)])
	}
}

// scribble writes behind the ends of an order's lists.
func scribble(x court.Tx) {
	_ = append(x.Rule, 99, 99)
	_ = append(x.Deed.Conds, cond(99, 1, 99, 99))
	for _, sig := range x.Deed.Sigs {
		_ = append(sig.Way, api.Digest{99})
	}
}

// roomy is an order alike, whose lists have room behind their ends, in which something lies.
func roomy(x court.Tx) court.Tx {
	cut := len(x.Rule)
	x.Rule = append(slices.Clone(x.Rule), 7, 7, 7)[:cut]
	cut = len(x.Deed.Conds)
	x.Deed.Conds = append(slices.Clone(x.Deed.Conds), cond(7, 0, 7, 7), cond(8, 0, 8, 8))[:cut]
	for side, sig := range x.Deed.Sigs {
		cut = len(sig.Way)
		x.Deed.Sigs[side].Way = append(slices.Clone(sig.Way), api.Digest{7}, api.Digest{8})[:cut]
	}
	return x
}

// whole is what an order's lists have, with the room behind their ends.
func whole(x court.Tx) []any {
	w := []any{slices.Clone(x.Rule[:cap(x.Rule)]), slices.Clone(x.Deed.Conds[:cap(x.Deed.Conds)])}
	for _, sig := range x.Deed.Sigs {
		w = append(w, slices.Clone(sig.Way[:cap(sig.Way)]))
	}
	return w
}

// shown is an order with all kinds of lists, by which a bond 0 is opened, and then its newest state is shown.
func shown(t *testing.T) (open, fight court.Tx) {
	t.Helper()
	d := signed(t, state(3, [2]uint64{20, 2}, [2]uint64{}, cond(1, 0, 5, 9), cond(2, 1, 6, 9)))
	open = court.Tx{Kind: court.Open, From: 1, To: 2, Amount: 50, Roots: roots(), Rule: rule(t, "push 6", "halt"), Deed: d, Fee: least}
	fight = court.Tx{Kind: court.Fight, From: 2, Rule: open.Rule, Deed: d, Fee: least}
	return roomy(open), roomy(fight)
}

// R3: an order handed in isn't turned, whatever is done with it, nor the room behind its lists.
func TestOrdersHandedInStay(t *testing.T) {
	open, fight := shown(t)
	before := [][]any{whole(open), whole(fight)}
	c := fresh(t)
	for range 3 {
		must(t, c, open, fight)
		submit(t, c, open)
		for _, x := range c.Pool() {
			scribble(x)
			wipe(x)
		}
		for id := range c.Bonds() {
			b, _ := c.Bond(uint32(id))
			_, _ = append(b.Rule, 9), append(b.Best.Conds, api.Cond{})
			clear(b.Rule[:cap(b.Rule)])
			clear(b.Best.Conds[:cap(b.Best.Conds)])
		}
		c = fresh(t)
	}
	if !reflect.DeepEqual([][]any{whole(open), whole(fight)}, before) {
		t.Error("R3: an order handed in was turned")
	}
}

// R3: an order handed in isn't kept: what becomes of it then, the court doesn't know.
func TestOrdersAreNotKept(t *testing.T) {
	c := fresh(t)
	open, fight := shown(t)
	submit(t, c, open)
	submit(t, c, fight)
	want := imageOf(t, c)
	open.Rule[0], open.Deed.Conds[0].Amount, open.Deed.Sigs[0].Way[0] = 99, 99, api.Digest{99}
	wipe(open)
	wipe(fight)
	wantImage(t, "R3: behind wiping the orders handed in", c, want)

	// As they were, they go through.
	open, fight = shown(t)
	if l, e := c.Block(0, 1); e != api.OK || !slices.Equal(l, []api.Errno{api.OK, api.OK}) {
		t.Errorf("R3: orders that were wiped behind Submit: %d, %d", l, e)
	}
	b, _ := c.Bond(0)
	if !slices.Equal(b.Rule, open.Rule) || !slices.Equal(b.Best.Conds, fight.Deed.Conds) || b.Phase != bond.Fought || b.Until != 7 {
		t.Errorf("R3: the bond: %v", b)
	}
}

// R3: orders that are done at once have nothing in common with the bond either.
func TestBondsAreNotOrders(t *testing.T) {
	c := fresh(t)
	open, fight := shown(t)
	submit(t, c, open)
	submit(t, c, fight)
	given := c.Pool()
	if l, _ := c.Block(0, 1); !slices.Equal(l, []api.Errno{api.OK, api.OK}) {
		t.Fatalf("P15.2: %d", l)
	}
	want := imageOf(t, c)
	for _, x := range append(given, open, fight) {
		wipe(x)
	}
	wantImage(t, "R3: behind wiping all orders", c, want)
}

// R3: the pool that is handed out isn't the court's, and no two of its lists share anything.
func TestPoolHandedOut(t *testing.T) {
	c := fresh(t)
	open, _ := shown(t)
	// One list in several places of what is handed in.
	open.Deed.Sigs[1].Way = open.Deed.Sigs[0].Way
	for range 3 {
		submit(t, c, open)
	}
	want := imageOf(t, c)
	l, other := c.Pool(), c.Pool()
	for place := range l {
		for later := place + 1; later < len(l); later++ {
			scribble(l[place])
			wipe(l[place])
			if !reflect.DeepEqual(bare(l[later]), bare(other[later])) {
				t.Fatalf("R3: the order %d was turned with %d", later, place)
			}
		}
	}
	wantImage(t, "R3: behind wiping the pool handed out", c, want)
	sigs := &other[0].Deed.Sigs
	keep := slices.Clone(sigs[1].Way)
	_ = append(sigs[0].Way, api.Digest{99})
	clear(sigs[0].Way[:cap(sigs[0].Way)])
	if !slices.Equal(sigs[1].Way, keep) {
		t.Error("R3: one signature's way was turned with the other one's")
	}
	// The list itself: an order put behind its end, or another one in its place.
	_ = append(l, court.Tx{})
	clear(l[:cap(l)])
	clear(other)
	submit(t, c, open)
	want.pool = append(want.pool, bare(open))
	wantImage(t, "R3: behind clearing the pool handed out", c, want)
}

// R3: a bond that is handed out isn't the court's.
func TestBondHandedOut(t *testing.T) {
	for name, c := range eachPhase(t) {
		want := imageOf(t, c)
		b, _ := c.Bond(0)
		other, _ := c.Bond(0)
		_, _ = append(b.Rule, 9), append(b.Best.Conds, api.Cond{Id: 9})
		clear(b.Rule[:cap(b.Rule)])
		clear(b.Best.Conds[:cap(b.Best.Conds)])
		wantImage(t, "R3: behind wiping a bond that is "+name, c, want)
		if !reflect.DeepEqual(bareBond(other), want.bonds[0]) {
			t.Errorf("R3: a bond that is %s was turned with another one handed out", name)
		}
		// A bond is a value: what is made of it isn't known to the court.
		if next, e := other.More(api.Left, 5); name != "Shut" && (e != api.OK || next.Put[0] != want.bonds[0].Put[0]+5) {
			t.Errorf("P14.1: More: %d", e)
		}
		wantImage(t, "R3: behind calls on a bond that is "+name, c, want)
	}
}

// R3: events and errors that are handed out aren't the court's.
func TestEventsHandedOut(t *testing.T) {
	c := fresh(t)
	for n := range uint64(3) {
		submit(t, c, court.Tx{From: 0, To: 1, Amount: 1, Nonce: n % 2, Fee: least})
	}
	errs, e := c.Block(0, 1, 2)
	if e != api.OK || !slices.Equal(errs, []api.Errno{api.OK, api.OK, api.ErrNonce}) {
		t.Errorf("P15.2: %d, %d", errs, e)
	}
	want := imageOf(t, c)
	l, other := c.Events(), c.Events()
	_, _ = append(errs, 99), append(l, court.Event{Height: 99})
	for place := range errs {
		errs[place], l[place] = 99, court.Event{Height: 99}
	}
	clear(l[:cap(l)])
	if !slices.Equal(other, want.events) {
		t.Errorf("R3: events turned with others: %v", other)
	}
	wantImage(t, "R3: behind wiping events and errors", c, want)
	must(t, c, court.Tx{From: 0, To: 1})
	if !slices.Equal(other, want.events) || len(c.Events()) != 4 {
		t.Errorf("R3: events turned with what came later: %v", other)
	}
}

// R3: what was handed out stays as it was, whatever the court does then.
func TestHandedOutStays(t *testing.T) {
	c := bonded(t, 30, 40)
	d := signed(t, state(1, [2]uint64{}, [2]uint64{}, cond(1, 0, 5, 9), cond(2, 1, 6, 9)))
	must(t, c, court.Tx{Kind: court.Fight, From: 1, Deed: d})
	newer := signed(t, state(2, [2]uint64{}, [2]uint64{}, cond(3, 0, 7, 8)))
	x := court.Tx{Kind: court.Show, From: 2, Deed: newer, Fee: least}
	submit(t, c, numbered(c, x))
	submit(t, c, court.Tx{Kind: 9, From: 3, Fee: least})
	b, _ := c.Bond(0)
	before := imageOf(t, c)
	l, events := c.Pool(), c.Events()
	if got, e := c.Block(0, 1); e != api.OK || !slices.Equal(got, []api.Errno{api.OK, api.ErrOp}) {
		t.Errorf("P15.2: %d, %d", got, e)
	}
	submit(t, c, court.Tx{From: 0, Fee: least, Rule: []byte{code.Now}})
	pass(t, c, 5)
	must(t, c, court.Tx{Kind: court.End, From: 0})
	if !reflect.DeepEqual(bareBond(b), before.bonds[0]) || !slices.Equal(events, before.events) {
		t.Errorf("R3: turned behind being handed out: %v, %v", b, events)
	}
	for place := range l {
		if !reflect.DeepEqual(bare(l[place]), before.pool[place]) {
			t.Errorf("R3: the order %d was turned behind being handed out", place)
		}
	}
}

// R4: nil and empty lists are one.
func TestNilAndEmpty(t *testing.T) {
	a, b := fresh(t), fresh(t)
	open, fight := shown(t)
	open.Rule, fight.Deed.State, fight.Deed.Sigs = nil, api.State{}, [2]ring.Sig{}
	must(t, a, open, fight)
	open.Rule, fight.Rule, fight.Deed.Conds = []byte{}, []byte{}, []api.Cond{}
	fight.Deed.Sigs = [2]ring.Sig{{Way: []api.Digest{}}, {Way: []api.Digest{}}}
	must(t, b, open, fight)
	wantImage(t, "R4: empty lists for nil ones", b, imageOf(t, a))
	if l, e := a.Block([]int{}...); e != api.OK || len(l) != 0 {
		t.Errorf("R4: no picks: %d, %d", l, e)
	}
}
