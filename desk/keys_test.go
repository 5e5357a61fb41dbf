package desk

import (
	"testing"

	"tollhouse/api"
	"tollhouse/deed"
	"tollhouse/pact"
	"tollhouse/ring"
)

const tall = 3

// wantTaken: the keys up to one are taken, and no more; of the Round 0 there is nothing to sign.
func wantTaken(t *testing.T, name string, d *Desk, last uint64) {
	t.Helper()
	for key := uint64(1); key < 1<<tall; key++ {
		if d.keys.Taken(uint32(key)) != (key <= last) {
			t.Errorf("P19.3: %s: the key %d is taken: %t", name, key, key > last)
		}
	}
}

// P19.3: which keys are taken behind each call, and of what is loaded then: those of the best deed, of all ahead of it, and of the offer.
func TestKeysTaken(t *testing.T) {
	seeds := [2][32]byte{{1}, {2}}
	k := deed.Roots{Tall: tall}
	for side, seed := range seeds {
		r, e := ring.New(seed, tall)
		if e != api.OK {
			t.Fatal(e)
		}
		k.Of[side] = r.Root()
	}
	var at [2]*Desk
	for side := range at {
		d, e := New(3, api.Side(side), k, seeds[side])
		if e != api.OK {
			t.Fatal(e)
		}
		at[side] = d
	}
	want := func(name string, side int, last uint64) {
		t.Helper()
		wantTaken(t, name, at[side], last)
		d, e := Load(3, api.Side(side), k, seeds[side], at[side].Save())
		if e != api.OK {
			t.Fatalf("P19.3: %s: Load: %d", name, e)
		}
		wantTaken(t, name+", loaded", d, last)
	}
	put := [2]uint64{9, 9}
	for round := uint64(1); round < 1<<tall; round++ {
		by := int(pact.Turn(round))
		want("ahead of Offer", by, round-1)
		m, e := at[by].Offer(put, pact.Op{Kind: pact.Pay, Amount: 1})
		if e != api.OK {
			t.Fatalf("P19.2: Offer: %d", e)
		}
		want("behind Offer", by, round)
		want("ahead of Hear", 1-by, round-1)
		wrong := m.Twin()
		wrong.Op.Amount = 2
		if _, _, e := at[1-by].Hear(put, wrong); e != api.ErrSign {
			t.Errorf("P19.2: Hear: %d", e)
		}
		want("behind a Hear that was refused", 1-by, round-1)
		x, _, e := at[1-by].Hear(put, m)
		if e != api.OK {
			t.Fatalf("P19.2: Hear: %d", e)
		}
		want("behind Hear", 1-by, round)
		if e := at[by].Agreed(x); e != api.OK {
			t.Fatalf("P19.2: Agreed: %d", e)
		}
		want("behind Agreed", by, round)
	}
}
