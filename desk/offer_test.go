package desk_test

import (
	"slices"
	"testing"

	"tollhouse/api"
	"tollhouse/deed"
	"tollhouse/desk"
	"tollhouse/memo"
	"tollhouse/pact"
)

// refuseOffer: the Offer has that error, and changes nothing.
func refuseOffer(t *testing.T, name string, d *desk.Desk, put [2]uint64, op pact.Op, trail []memo.Hop, want api.Errno) {
	t.Helper()
	before := imageOf(d)
	if m, e := d.Offer(put, op, trail...); e != want || !sameMemo(m, memo.Memo{}) {
		t.Errorf("P19.2: Offer, %s: %s, %d; want %d", name, brief(m), e, want)
	}
	if !imageOf(d).same(before) {
		t.Errorf("R2: Offer, %s: the desk isn't as it was", name)
	}
}

// P19.2: what is offered: each kind of wish, made bare, by each side.
func TestOffer(t *testing.T) {
	for by := api.Left; by <= api.Right; by++ {
		for kind := pact.Pass; kind <= pact.Take; kind++ {
			for many := range 8 {
				p := pairAt(t, 3, uint64(by))
				// A payment of each side is pending, for Done and Undo of the Id 7.
				p.do(t, plenty, lock(7, by, 4))
				p.do(t, plenty, lock(8, 1-by, 5))
				d := p.at[by]
				op := full(kind, by)
				if kind == pact.Lock {
					op.Cond.Id = 9
				}
				state := d.Best().State
				m, e := d.Offer(plenty, op, hops(many)...)
				next, f := pact.Next(state, plenty, by, op)
				if e != api.OK || f != api.OK {
					t.Fatalf("P19.2: Offer of the kind %d: %d, %d", kind, e, f)
				}
				sig, _ := deed.Sign(ringOf(t, by, 3), next)
				want := memo.Memo{Kind: memo.Offer, Channel: channel, Round: uint64(by) + 3, Op: desk.Bare(op), Trail: hops(many), Sig: sig}
				if !sameMemo(m, want) || !m.Right() {
					t.Errorf("P19.2: Offer of the kind %d, %d hops: %s, want %s", kind, many, brief(m), brief(want))
				}
				if open, ok := d.Open(); !ok || !sameMemo(open, want) {
					t.Errorf("P19.1: Open behind the kind %d: %s, %t", kind, brief(open), ok)
				}
				if !pact.Same(d.Best().State, state) || d.Turn() {
					t.Errorf("P19.2: the best deed behind an Offer of the kind %d: %v", kind, d.Best().State)
				}
			}
		}
	}
}

// P19.2: what a wish has that its kind hasn't is nothing to the Offer, whatever it is.
func TestOfferIsMadeBare(t *testing.T) {
	for _, by := range farSides {
		p := newPair(t, 1)
		m, e := p.at[0].Offer(plenty, pact.Op{Kind: pact.Pay, Amount: 4, Id: 9, Cond: cond(1, by, 0)})
		if e != api.OK || m.Op != pay(4) {
			t.Errorf("P19.2: %v, %d", m.Op, e)
		}
	}
	p := newPair(t, 1)
	if m, e := p.at[0].Offer(plenty, full(pact.Lock, 0)); e != api.OK || m.Op != (pact.Op{Kind: pact.Lock, Cond: cond(7, 0, 3)}) {
		t.Errorf("P19.2: %v, %d", m.Op, e)
	}
}

// P19.2: an offer while one is open, ahead of all else that is wrong.
func TestOfferWhileOpen(t *testing.T) {
	p := newPair(t, 3)
	m, _ := p.at[0].Offer(plenty, pay(4), hops(2)...)
	for _, op := range []pact.Op{{}, pay(4), lock(1, 1, 0), {Kind: 6}} {
		for _, trail := range [][]memo.Hop{nil, hops(2), hops(8)} {
			refuseOffer(t, "one is open", p.at[0], plenty, op, trail, api.ErrState)
		}
	}
	refuseOffer(t, "one is open, and too little was put in", p.at[0], [2]uint64{}, pay(4), nil, api.ErrState)
	if open, ok := p.at[0].Open(); !ok || !sameMemo(open, m) {
		t.Errorf("P19.1: Open: %s, %t", brief(open), ok)
	}
	x, _, _ := p.at[1].Hear(plenty, m)
	if e := p.at[0].Agreed(x); e != api.OK || p.at[0].Best().Moved != [2]uint64{4, 0} {
		t.Errorf("P19.2: Agreed: %d, %v", e, p.at[0].Best().State)
	}
}

// P19.2: Trails of more than 7 hops, ahead of what is wrong with the wish.
func TestOfferTrail(t *testing.T) {
	p := newPair(t, 3)
	for _, many := range []int{8, 9, 255, 256, 300} {
		refuseOffer(t, "too many hops", p.at[0], plenty, pact.Op{}, hops(many), api.ErrLimit)
		refuseOffer(t, "too many hops, a Lock by the other side", p.at[0], plenty, lock(1, 1, 2), hops(many), api.ErrLimit)
		refuseOffer(t, "too many hops, the other side's turn", p.at[1], plenty, pact.Op{}, hops(many), api.ErrLimit)
		refuseOffer(t, "too many hops, no such kind", p.at[0], plenty, pact.Op{Kind: 6}, hops(many), api.ErrLimit)
	}
	if m, e := p.at[0].Offer(plenty, pact.Op{}, hops(7)...); e != api.OK || !slices.Equal(m.Trail, hops(7)) {
		t.Errorf("P19.2: 7 hops: %d", e)
	}
}

// P19.2: a Lock's Cond by the other side or none, ahead of layer 12's errors.
func TestOfferLockByOthers(t *testing.T) {
	for by := api.Left; by <= api.Right; by++ {
		p := pairAt(t, 3, uint64(by))
		for _, whose := range append(slices.Clone(farSides), 1-by) {
			op := lock(1, whose, 2)
			refuseOffer(t, "a Lock by another", p.at[by], plenty, op, nil, api.ErrArg)
			refuseOffer(t, "a Lock by another, with more", p.at[by], plenty, pact.Op{Kind: pact.Lock, Amount: 1, Id: 1, Cond: op.Cond}, hops(7), api.ErrArg)
			refuseOffer(t, "a Lock by another, of a sum above the last", p.at[by], [2]uint64{top, top}, op, nil, api.ErrArg)
		}
		// In the other side's turn it is the first error, too.
		refuseOffer(t, "a Lock by the side whose turn it is", p.at[1-by], plenty, lock(1, by, 2), nil, api.ErrArg)
		refuseOffer(t, "an own Lock in the other side's turn", p.at[1-by], plenty, lock(1, 1-by, 2), nil, api.ErrTurn)
		if _, e := p.at[by].Offer(plenty, lock(1, by, 2)); e != api.OK {
			t.Errorf("P19.2: an own Lock: %d", e)
		}
	}
}

// P19.2: wishes that layer 12 refuses: with its error.
func TestOfferRefused(t *testing.T) {
	for by := api.Left; by <= api.Right; by++ {
		p := pairAt(t, 4, uint64(by))
		put := [2]uint64{10, 10}
		for id := range uint64(8) {
			p.do(t, put, lock(id, api.Side(id%2)^by, 1))
		}
		d := p.at[by]
		for _, c := range []struct {
			name string
			put  [2]uint64
			op   pact.Op
			want api.Errno
		}{
			{"nothing paid", put, pay(0), api.ErrArg},
			{"too much paid", put, pay(7), api.ErrRoom},
			{"all paid that there is", put, pay(top), api.ErrRoom},
			{"nothing taken", put, pact.Op{Kind: pact.Take}, api.ErrArg},
			{"too much taken", put, pact.Op{Kind: pact.Take, Amount: 7}, api.ErrRoom},
			{"what is pending", put, lock(3, by, 1), api.ErrTwice},
			{"nothing locked, and no room for it", put, lock(9, by, 0), api.ErrFull},
			{"one too many", put, lock(9, by, 1), api.ErrFull},
			{"done, and not pending", put, pact.Op{Kind: pact.Done, Id: 8}, api.ErrNone},
			{"undone, and not pending", put, pact.Op{Kind: pact.Undo, Id: top}, api.ErrNone},
			{"no such kind", put, pact.Op{Kind: 6}, api.ErrOp},
			{"no such kind, below 0", put, full(-1, by), api.ErrOp},
			{"too little was put in by Left", [2]uint64{3, 10}, pact.Op{}, api.ErrUnder},
			{"too little was put in by Right", [2]uint64{10, 3}, pact.Op{}, api.ErrUnder},
			{"nothing was put in", [2]uint64{}, pact.Op{Kind: 6}, api.ErrUnder},
		} {
			refuseOffer(t, c.name, d, c.put, c.op, hops(7), c.want)
		}
		refuseOffer(t, "in the other side's turn", p.at[1-by], put, pact.Op{}, nil, api.ErrTurn)
		refuseOffer(t, "in the other side's turn, no such kind", p.at[1-by], put, pact.Op{Kind: 6}, nil, api.ErrTurn)
		refuseOffer(t, "in the other side's turn, too little put in", p.at[1-by], [2]uint64{}, pact.Op{}, nil, api.ErrUnder)
		// Refusals took no key.
		if m, e := d.Offer(put, pay(6)); e != api.OK || m.Op != pay(6) {
			t.Errorf("P19.2: Offer behind refusals: %d", e)
		}
	}
}

// P19.2: what both put in counts as it is told, call by call.
func TestOfferPut(t *testing.T) {
	p := newPair(t, 3)
	refuseOffer(t, "nothing was put in", p.at[0], [2]uint64{}, pay(4), nil, api.ErrRoom)
	refuseOffer(t, "a sum above the last", p.at[0], [2]uint64{4, top}, pay(4), nil, api.ErrOver)
	p.do(t, [2]uint64{4, 0}, pay(4))
	refuseOffer(t, "more than the other side moved", p.at[1], [2]uint64{4, 0}, pay(5), nil, api.ErrRoom)
	p.do(t, [2]uint64{4, 1}, pay(5))
	p.do(t, [2]uint64{100, 1}, pay(101))
	refuseOffer(t, "less was put in than before", p.at[1], [2]uint64{99, 1}, pact.Op{}, nil, api.ErrUnder)
}

// P19.2: the last Round that there is a key of, and one beyond, behind all of layer 12's errors.
func TestOfferKeys(t *testing.T) {
	for tall := range 5 {
		last := uint64(1)<<tall - 1
		p := pairAt(t, tall, last)
		by := p.turn()
		if d := p.at[by].Best(); d.Round != last || !rootsOf(t, tall).Whole(d, channel) {
			t.Errorf("P19.2: height %d: the round %d", tall, d.Round)
		}
		refuseOffer(t, "there is no key", p.at[by], plenty, pact.Op{}, hops(7), api.ErrArg)
		refuseOffer(t, "there is no key, nor room", p.at[by], plenty, pay(1001), nil, api.ErrRoom)
		refuseOffer(t, "there is no key, nor the kind", p.at[by], plenty, pact.Op{Kind: 6}, nil, api.ErrOp)
		refuseOffer(t, "there is no key, nor the turn", p.at[1-by], plenty, pact.Op{}, nil, api.ErrTurn)
		refuseOffer(t, "there is no key, but too many hops", p.at[by], plenty, pact.Op{}, hops(8), api.ErrLimit)
		if m, ok := p.at[by].Open(); ok || !p.at[by].Turn() {
			t.Errorf("P19.2: height %d: open: %s", tall, brief(m))
		}
		for range 2 {
			refuseHear(t, "there is no key", p.at[1-by], plenty, memo.Memo{Kind: memo.Offer, Channel: channel, Round: last + 1}, api.ErrSign)
			refuseHear(t, "there is no key, nor room", p.at[1-by], plenty, memo.Memo{Kind: memo.Offer, Channel: channel, Round: last + 1, Op: pay(1001)}, api.ErrRoom)
		}
	}
}
