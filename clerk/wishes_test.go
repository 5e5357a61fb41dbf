package clerk_test

import (
	"slices"
	"testing"

	"tollhouse/api"
	"tollhouse/clerk"
	"tollhouse/memo"
	"tollhouse/pact"
)

// wish is one with something in each field, and so many hops.
func wish(kind, many int) clerk.Wish {
	return clerk.Wish{Op: pact.Op{Kind: kind, Amount: 3, Id: 4, Cond: cond(5, api.Right, 6, 7)}, Trail: hops(many)}
}

// P20.3: a Twin is a wish alike.
func TestTwin(t *testing.T) {
	for _, w := range []clerk.Wish{{}, {Trail: []memo.Hop{}}, wish(pact.Lock, 0), wish(pact.Done, 1), wish(-1, 7), wish(300, 9)} {
		if got := w.Twin(); !sameWish(got, w) {
			t.Errorf("P20.3: Twin of %v: %v", w, got)
		}
	}
}

// others are wishes like one but for one field.
func others(op pact.Op) []pact.Op {
	var l []pact.Op
	for _, turn := range []func(op *pact.Op){
		func(op *pact.Op) { op.Kind++ },
		func(op *pact.Op) { op.Kind-- },
		func(op *pact.Op) { op.Kind += 256 },
		func(op *pact.Op) { op.Amount++ },
		func(op *pact.Op) { op.Amount ^= 1 << 63 },
		func(op *pact.Op) { op.Id++ },
		func(op *pact.Op) { op.Id ^= 1 << 63 },
		func(op *pact.Op) { op.Cond.Id++ },
		func(op *pact.Op) { op.Cond.By = 1 - op.Cond.By },
		func(op *pact.Op) { op.Cond.By += 256 },
		func(op *pact.Op) { op.Cond.Amount++ },
		func(op *pact.Op) { op.Cond.Hash[0]++ },
		func(op *pact.Op) { op.Cond.Hash[31]++ },
		func(op *pact.Op) { op.Cond.Expiry++ },
		func(op *pact.Op) { op.Cond.Expiry ^= 1 << 63 },
	} {
		other := op
		turn(&other)
		l = append(l, other)
	}
	return l
}

// wantSame asks both ways round, and whatever the Trails are.
func wantSame(t *testing.T, a, b pact.Op, want bool) {
	t.Helper()
	for _, many := range []int{0, 1, 7} {
		if got := (clerk.Wish{Op: a, Trail: hops(many)}).Same(b); got != want {
			t.Errorf("P20.3: %v Same %v: %t", a, b, got)
		}
		if got := (clerk.Wish{Op: b, Trail: hops(many)}).Same(a); got != want {
			t.Errorf("P20.3: %v Same %v: %t", b, a, got)
		}
	}
}

// P20.3: wishes that are neither Done nor Undo are the same, if all that they want is.
func TestSame(t *testing.T) {
	for _, kind := range append(slices.Clone(farKinds), pact.Pass, pact.Pay, pact.Lock, pact.Take) {
		for _, op := range []pact.Op{{Kind: kind}, wish(kind, 0).Op} {
			wantSame(t, op, op, true)
			for _, other := range others(op) {
				wantSame(t, op, other, false)
			}
		}
	}
}

// P20.3: Done and Undo of one Id are the same, whatever else they have, of two they aren't.
func TestSameTakingOut(t *testing.T) {
	for _, a := range []int{pact.Done, pact.Undo} {
		for _, b := range []int{pact.Done, pact.Undo} {
			for _, id := range []uint64{0, 1, 9, 1 << 32, top} {
				wantSame(t, pact.Op{Kind: a, Id: id}, pact.Op{Kind: b, Id: id}, true)
				wantSame(t, pact.Op{Kind: a, Id: id}, pact.Op{Kind: b, Id: id, Amount: 1, Cond: cond(4, 1, 1, 1)}, true)
				for _, bit := range []int{0, 1, 31, 32, 63} {
					wantSame(t, pact.Op{Kind: a, Id: id}, pact.Op{Kind: b, Id: id ^ 1<<bit}, false)
				}
			}
		}
		// One of another kind isn't the same, though all else is.
		for _, kind := range append(slices.Clone(farKinds), pact.Pass, pact.Pay, pact.Lock, pact.Take) {
			wantSame(t, pact.Op{Kind: a, Id: 9}, pact.Op{Kind: kind, Id: 9}, false)
			wantSame(t, pact.Op{Kind: a}, pact.Op{Kind: kind}, false)
		}
	}
}

// wantAdd: a wish is laid behind others, or not.
func wantAdd(t *testing.T, name string, l []clerk.Wish, w clerk.Wish, isNew bool) {
	t.Helper()
	var want []clerk.Wish
	for _, o := range l {
		want = append(want, o.Twin())
	}
	before := slices.Clone(want)
	if isNew {
		want = append(want, w)
	}
	if got := clerk.Add(l, w); !sameWishes(got, want) {
		t.Errorf("P20.3: %s: Add of %v: %v; want %v", name, w, got, want)
	}
	if !sameWishes(l, before) {
		t.Errorf("R3: %s: Add changed the wishes", name)
	}
}

// P20.3: Add lays a wish behind the others, if none of them is the same.
func TestAdd(t *testing.T) {
	pass, pay := clerk.Wish{}, clerk.Wish{Op: pact.Op{Kind: pact.Pay, Amount: 3}, Trail: hops(2)}
	lock := wish(pact.Lock, 3)
	wantAdd(t, "to none", nil, pass, true)
	wantAdd(t, "to none", []clerk.Wish{}, lock, true)
	all := []clerk.Wish{lock, pass, {Op: done(4)}, pay, {Op: undo(5)}}
	for _, w := range all {
		wantAdd(t, "once more", all, w, false)
		wantAdd(t, "with another Trail", all, clerk.Wish{Op: w.Op, Trail: hops(5)}, false)
		wantAdd(t, "to others", []clerk.Wish{{Op: done(9)}, {Op: pact.Op{Kind: pact.Take, Amount: 3}}}, w, true)
	}
	for _, id := range []uint64{4, 5} {
		wantAdd(t, "Done of what is taken out", all, clerk.Wish{Op: done(id)}, false)
		wantAdd(t, "Undo of what is taken out", all, clerk.Wish{Op: undo(id)}, false)
	}
	for _, w := range []clerk.Wish{{Op: done(6)}, {Op: undo(6)}, {Op: pact.Op{Kind: pact.Pay, Amount: 4}}, {Op: pact.Op{Kind: pact.Take, Amount: 3}}} {
		wantAdd(t, "another one", all, w, true)
	}
	for _, op := range others(lock.Op) {
		wantAdd(t, "one field unlike", []clerk.Wish{lock}, clerk.Wish{Op: op, Trail: lock.Trail}, true)
	}
	// What stands there twice stays so.
	twice := []clerk.Wish{pass, pass, {Op: done(4)}, {Op: undo(4)}}
	wantAdd(t, "to what stands twice", twice, pass, false)
	wantAdd(t, "to what stands twice", twice, pay, true)
}

// P20.3: Add knows no limit.
func TestAddMany(t *testing.T) {
	var l []clerk.Wish
	for n := range uint64(300) {
		l = clerk.Add(l, clerk.Wish{Op: done(n)})
		l = clerk.Add(l, clerk.Wish{Op: undo(n / 2)})
	}
	if len(l) != 300 || l[299].Op != done(299) {
		t.Errorf("P20.3: Add: %d wishes", len(l))
	}
}
