package bailiff_test

import (
	"reflect"
	"slices"
	"testing"

	"tollhouse/api"
	"tollhouse/bailiff"
	"tollhouse/court"
)

// wipe turns all memory that an order's lists have, their spare room too.
func wipe(x court.Tx) {
	clear(x.Rule[:cap(x.Rule)])
	clear(x.Deed.Conds[:cap(x.Deed.Conds)])
	for _, sig := range x.Deed.Sigs {
		clear(sig.Way[:cap(sig.Way)])
	}
}

// roomy is an order alike, whose lists have room behind their ends, in which something lies.
func roomy(x court.Tx) court.Tx {
	cut := len(x.Rule)
	x.Rule = append(slices.Clone(x.Rule), 7, 7, 7)[:cut]
	cut = len(x.Deed.Conds)
	x.Deed.Conds = append(slices.Clone(x.Deed.Conds), cond(7, 0, 7, 7), cond(8, 0, 8, 8))[:cut]
	for side, sig := range x.Deed.Sigs {
		cut = len(sig.Way)
		x.Deed.Sigs[side].Way = append(slices.Clone(sig.Way), api.Digest{7}, api.Digest{8})[:cut]
	}
	return x
}

// whole is what an order's lists have, with the room behind their ends.
func whole(x court.Tx) []any {
	w := []any{slices.Clone(x.Rule[:cap(x.Rule)]), slices.Clone(x.Deed.Conds[:cap(x.Deed.Conds)])}
	for _, sig := range x.Deed.Sigs {
		w = append(w, slices.Clone(sig.Way[:cap(sig.Way)]))
	}
	return w
}

// R3: what Orders answers is new memory, the deeds of two orders too; the deed handed in stays.
func TestOrdersAreNew(t *testing.T) {
	c := bonded(t)
	x := roomy(court.Tx{Deed: signed(t, taken(4, 4, 5, cond(1, 0, 6, 1)))})
	before := whole(x)
	want := bareAll(bailiff.Orders(c, impatient, 1, x.Deed))
	for place := range 2 {
		l := bailiff.Orders(c, impatient, 1, x.Deed)
		if len(l) != 2 {
			t.Fatalf("P21.2: Orders: %d", kinds(l))
		}
		wipe(l[place])
		if !sameOrders(l[1-place:][:1], want[1-place:][:1]) {
			t.Errorf("R3: two orders share a deed")
		}
		wipe(l[1-place])
		clear(l[:cap(l)])
	}
	if !reflect.DeepEqual(whole(x), before) || !sameOrders(bailiff.Orders(c, impatient, 1, x.Deed), want) {
		t.Error("R3: the deed handed in was turned")
	}
	l := bailiff.Orders(c, impatient, 1, x.Deed)
	wipe(x)
	if !sameOrders(l, want) {
		t.Error("R3: the deed handed in is an order's own")
	}
	// Both Ways of one deed.
	clear(l[0].Deed.Sigs[0].Way[:cap(l[0].Deed.Sigs[0].Way)])
	if !reflect.DeepEqual(l[0].Deed.Sigs[1], want[0].Deed.Sigs[1]) {
		t.Error("R3: two Ways of one deed share memory")
	}
}

// R3: what Fresh answers is new memory, and neither what was handed in nor the court's own.
func TestFreshIsNew(t *testing.T) {
	c := fresh(t)
	waits := court.Tx{Kind: court.Show, From: 1, Rule: []byte{5}, Deed: signed(t, taken(2, 1, 1, cond(1, 0, 6, 1)))}
	submit(t, c, waits)
	room := []court.Tx{roomy(rich(t)), waits, roomy(rich(t)), roomy(rich(t))}
	room[0].Bond, room[2].Bond = 8, 9
	before := [][]any{whole(room[0]), whole(room[1]), whole(room[2]), whole(room[3])}
	pool := bareAll(c.Pool())
	want := bareAll(bailiff.Fresh(c, 1, room[:3]))
	got := bailiff.Fresh(c, 1, room[:3])
	if len(got) != 2 {
		t.Fatalf("P21.3: Fresh: %d", kinds(got))
	}
	wipe(got[0])
	if !sameOrders(got[1:], want[1:]) {
		t.Error("R3: two orders share memory")
	}
	wipe(got[1])
	clear(got[:cap(got)])
	if !reflect.DeepEqual([][]any{whole(room[0]), whole(room[1]), whole(room[2]), whole(room[3])}, before) || !sameOrders(c.Pool(), pool) {
		t.Error("R3: what was handed in, or the court, was turned")
	}
	got = bailiff.Fresh(c, 1, room[:3])
	for _, x := range room {
		wipe(x)
	}
	clear(room)
	if !sameOrders(got, want) {
		t.Error("R3: what was handed in is an order's own")
	}
}

// R3: two orders of one memory come out apart.
func TestFreshApart(t *testing.T) {
	x := rich(t)
	l := bailiff.Fresh(nil, 1, []court.Tx{x, x})
	want := bareAll(l)
	wipe(l[0])
	if !sameOrders(l[1:], want[1:]) {
		t.Error("R3: two orders share memory")
	}
}

// R3: the court that is asked stays as it was.
func TestCourtStays(t *testing.T) {
	c := fought(t, signed(t, taken(4, 4, 5, cond(1, 0, 6, 1))))
	submit(t, c, rich(t))
	image := func() []any {
		b, _ := c.Bond(0)
		b.Rule = append([]byte(nil), b.Rule...)
		return []any{b, bareAll(c.Pool()), c.Height(), c.Kept(), c.Told(), c.Next(1), c.Has(1), c.Events()}
	}
	before := image()
	d := signed(t, taken(5, 5, 5, cond(2, 0, 6, 1)))
	for who := range 5 {
		bailiff.Fresh(c, who, bailiff.Orders(c, impatient, who, d))
	}
	bailiff.Overdue(c, impatient, d.State)
	bailiff.Since(c, d.Conds[0])
	bailiff.Waits(c, rich(t))
	if !reflect.DeepEqual(image(), before) {
		t.Error("R3: the court was turned")
	}
}
