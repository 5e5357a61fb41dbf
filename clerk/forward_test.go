package clerk_test

import (
	"math"
	"slices"
	"testing"

	"tollhouse/api"
	"tollhouse/clerk"
	"tollhouse/court"
	"tollhouse/deed"
	"tollhouse/memo"
	"tollhouse/money"
	"tollhouse/pact"
)

// streets is a court at the height now, with three bonds: of 1 and 2, of 2 and 0, of 0 and 3.
func streets(t *testing.T) *court.Court {
	t.Helper()
	c := fresh(t)
	for _, who := range [][2]int{{1, 2}, {2, 0}, {0, 3}} {
		must(t, c, court.Tx{Kind: court.Open, From: who[0], To: who[1], Amount: 20})
	}
	upTo(t, c, now)
	return c
}

// plain are rules that may be.
var plain = clerk.Rules{Fee: money.Fee{Base: 2, Rate: 100000}, Margin: 3, Longest: 50}

// came is a payment to the node, of that much.
func came(amount, expiry uint64) api.Cond {
	return api.Cond{Id: 40, By: api.Right, Amount: amount, Hash: hashOf(6), Expiry: expiry}
}

// wantForward: a payment goes on by the first hop's channel, on that side, over the rest of the Trail.
func wantForward(t *testing.T, name string, r clerk.Rules, c *court.Court, who int, p api.Cond, trail []memo.Hop, side api.Side) {
	t.Helper()
	before := slices.Clone(trail)
	id, w, e := r.Forward(c, who, p, trail)
	first := trail[0]
	want := clerk.Wish{
		Op:    pact.Op{Kind: pact.Lock, Cond: api.Cond{Id: first.Id, By: side, Amount: first.Amount, Hash: p.Hash, Expiry: p.Expiry}},
		Trail: trail[1:],
	}
	if e != api.OK || id != first.Channel || !sameWish(w, want) {
		t.Errorf("P20.2: %s: Forward: %d, %v, %d; want %d, %v", name, id, w, e, first.Channel, want)
	}
	if !slices.Equal(trail, before) {
		t.Errorf("R3: %s: Forward changed the Trail", name)
	}
}

// wantNoForward: a payment doesn't go on.
func wantNoForward(t *testing.T, name string, r clerk.Rules, c *court.Court, who int, p api.Cond, trail []memo.Hop, want api.Errno) {
	t.Helper()
	if id, w, e := r.Forward(c, who, p, trail); id != 0 || !sameWish(w, clerk.Wish{}) || e != want {
		t.Errorf("P20.2: %s: Forward: %d, %v, %d; want %d", name, id, w, e, want)
	}
}

// P20.2: Forward, written out.
func TestForwardWrittenOut(t *testing.T) {
	c := streets(t)
	trail := []memo.Hop{{Channel: 1, Amount: 10, Id: 77}, {Channel: 2, Amount: 9, Id: 78}}
	// The fee of 10 is 2 and a tenth: 3.
	id, w, e := plain.Forward(c, 2, api.Cond{Id: 40, By: 1, Amount: 13, Hash: hashOf(6), Expiry: 13}, trail)
	want := clerk.Wish{
		Op:    pact.Op{Kind: 2, Cond: api.Cond{Id: 77, By: 0, Amount: 10, Hash: hashOf(6), Expiry: 13}},
		Trail: []memo.Hop{{Channel: 2, Amount: 9, Id: 78}},
	}
	if e != api.OK || id != 1 || !sameWish(w, want) {
		t.Errorf("P20.2: Forward: %d, %v, %d; want 1, %v", id, w, e, want)
	}
}

// P20.2: Forward on each side of each bond, over Trails of each length.
func TestForward(t *testing.T) {
	c := streets(t)
	for _, w := range []struct {
		who  int
		id   uint32
		side api.Side
	}{{1, 0, 0}, {2, 0, 1}, {2, 1, 0}, {0, 1, 1}, {0, 2, 0}, {3, 2, 1}} {
		for many := range 10 {
			trail := append([]memo.Hop{{Channel: w.id, Amount: 10, Id: uint64(many)}}, hops(many)...)
			wantForward(t, "each side", plain, c, w.who, came(13, 13), trail, w.side)
		}
	}
}

// P20.2: whose the payment was, and its Id, make no difference.
func TestForwardWhatever(t *testing.T) {
	c := streets(t)
	for _, by := range []api.Side{0, 1, -1, 2, math.MaxInt} {
		for _, id := range []uint64{0, 77, top} {
			p := came(20, 100)
			p.By, p.Id = by, id
			wantForward(t, "whoever paid", plain, c, 2, p, []memo.Hop{{Channel: 0, Amount: 10, Id: 77}}, api.Right)
		}
	}
	for _, secret := range []uint64{0, 1, 2} {
		p := came(20, 100)
		p.Hash = hashOf(secret)
		wantForward(t, "whichever hash", plain, c, 2, p, []memo.Hop{{Channel: 1, Amount: 10, Id: 0}}, api.Left)
	}
	p := came(20, 100)
	p.Hash = api.Hash{}
	wantForward(t, "no secret's hash", plain, c, 2, p, []memo.Hop{{Channel: 1, Amount: 10, Id: top}}, api.Left)
}

// P20.2: an empty Trail.
func TestForwardNone(t *testing.T) {
	c := streets(t)
	for _, trail := range [][]memo.Hop{nil, {}, hops(3)[:0]} {
		wantNoForward(t, "an empty Trail", plain, c, 2, came(13, 13), trail, api.ErrNone)
	}
}

// P20.2: a first hop whose channel has no bond, or one of others, or whose amount is 0.
func TestForwardRoute(t *testing.T) {
	c := streets(t)
	for who, ids := range map[int][]uint32{0: {0}, 1: {1, 2}, 2: {2}, 3: {0, 1}, 4: {0, 1, 2}, 5: {0, 1, 2}, -1: {0, 1, 2}, math.MinInt: {0}, math.MaxInt: {0}, 1 << 32: {1, 2}, 1<<32 + 1: {0}} {
		for _, id := range append(ids, 3, 4, 16, 255, 256, 1<<16, 1<<31, math.MaxUint32) {
			wantNoForward(t, "no bond of the node's", plain, c, who, came(20, 20), []memo.Hop{{Channel: id, Amount: 10, Id: 1}}, api.ErrRoute)
		}
	}
	for _, id := range []uint32{0, 1} {
		wantNoForward(t, "an amount of 0", plain, c, 2, came(20, 20), []memo.Hop{{Channel: id, Id: 1}, {Channel: 1, Amount: 9}}, api.ErrRoute)
	}
	// What isn't the first hop isn't asked.
	wantForward(t, "a later amount of 0", plain, c, 2, came(20, 20), []memo.Hop{{Channel: 0, Amount: 1, Id: 1}, {}, {Channel: 99}}, api.Right)
	// Where there is no bond at all, the account 0 has no side of it either.
	bare := fresh(t)
	for _, id := range []uint32{0, 1, 16} {
		wantNoForward(t, "no bond at all", plain, bare, 0, came(20, 20), []memo.Hop{{Channel: id, Amount: 10, Id: 1}}, api.ErrRoute)
	}
}

// P20.2: what the phase of the bond is makes no difference.
func TestForwardPhases(t *testing.T) {
	c := streets(t)
	trail := []memo.Hop{{Channel: 0, Amount: 10, Id: 1}}
	must(t, c, court.Tx{Kind: court.Fight, From: 1, Bond: 0, Deed: deed.First(0)})
	wantForward(t, "Fought", plain, c, 1, came(13, 30), trail, api.Left)
	upTo(t, c, 20)
	must(t, c, court.Tx{Kind: court.End, From: 1, Bond: 0})
	if b, _ := c.Bond(0); b.Phase != 2 {
		t.Fatalf("the phase %d", b.Phase)
	}
	wantForward(t, "Shut", plain, c, 2, came(13, 30), trail, api.Right)
}

// P20.2, P20.4: as much must come as goes on, with the Fee.
func TestForwardFee(t *testing.T) {
	c := streets(t)
	for _, w := range []struct {
		fee          money.Fee
		amount, over uint64
	}{
		{money.Fee{}, 10, 10},
		{money.Fee{Base: 2}, 10, 12},
		{money.Fee{Rate: 1}, 999999, 999999},
		{money.Fee{Rate: 1}, 1000000, 1000001},
		{money.Fee{Base: 2, Rate: 100000}, 19, 22},
		{money.Fee{Rate: 1000000}, 10, 20},
		{money.Fee{Rate: 1000001}, 1000000, 2000001},
		{money.Fee{Rate: 3000000}, 10, 40},
		{money.Fee{}, top - 1, top - 1},
		{money.Fee{Base: 1}, top - 2, top - 1},
		{money.Fee{Rate: 1000000}, 1<<63 - 1, top - 1},
		{money.Fee{Base: top - 2}, 1, top - 1},
	} {
		r := clerk.Rules{Fee: w.fee, Margin: 1, Longest: 9}
		trail := []memo.Hop{{Channel: 0, Amount: w.amount, Id: 3}, {Channel: 9, Amount: 1, Id: 4}}
		for _, more := range []uint64{0, 1, top - w.over} {
			wantForward(t, "enough", r, c, 1, came(w.over+more, 11), trail, api.Left)
		}
		for _, less := range []uint64{0, w.amount - 1, w.over - 1} {
			wantNoForward(t, "too little", r, c, 1, came(less, 11), trail, api.ErrFee)
		}
	}
}

// P20.2: a Fee's Over that is 2^64 - 1, and one that is more.
func TestForwardOver(t *testing.T) {
	c := streets(t)
	for _, w := range []struct {
		fee    money.Fee
		amount uint64
	}{
		{money.Fee{}, top}, {money.Fee{Base: 1}, top - 1}, {money.Fee{Base: top - 1}, 1}, {money.Fee{Base: 1, Rate: 1000000}, 1<<63 - 1},
	} {
		r := clerk.Rules{Fee: w.fee, Margin: 1, Longest: 9}
		wantForward(t, "just an amount", r, c, 2, came(top, 11), []memo.Hop{{Channel: 1, Amount: w.amount, Id: 3}}, api.Left)
		wantNoForward(t, "just an amount, one came less", r, c, 2, came(top-1, 11), []memo.Hop{{Channel: 1, Amount: w.amount, Id: 3}}, api.ErrFee)
		r.Fee.Base++
		for _, p := range []api.Cond{came(top, 11), came(0, 11), came(1, 0)} {
			wantNoForward(t, "more than an amount", r, c, 2, p, []memo.Hop{{Channel: 1, Amount: w.amount, Id: 3}}, api.ErrOver)
		}
	}
	// What goes on may be too much by the Rate alone, also where the rules may not be.
	for _, rate := range []uint64{1000000, 1000001, 1 << 32, top} {
		r := clerk.Rules{Fee: money.Fee{Rate: rate}, Margin: 1, Longest: 9}
		wantNoForward(t, "a great Rate", r, c, 2, came(top, 11), []memo.Hop{{Channel: 1, Amount: 1 << 63, Id: 3}}, api.ErrOver)
		wantNoForward(t, "a great Rate", r, c, 2, came(top, 11), []memo.Hop{{Channel: 1, Amount: top, Id: 3}}, api.ErrOver)
	}
}

// P20.2: the Expiry is Margin above the height, or more.
func TestForwardLate(t *testing.T) {
	trail := []memo.Hop{{Channel: 1, Amount: 10, Id: 3}}
	c := streets(t)
	for _, margin := range []uint64{0, 1, 2, 5, 100, 101, 1 << 63, top - now - 1, top - now, top - now + 1, top} {
		r := clerk.Rules{Margin: margin, Longest: 9}
		for _, expiry := range []uint64{0, 1, now - 1, now, now + 1, now + margin - 1, now + margin, now + margin + 1, 1 << 63, top - 1, top} {
			if expiry >= now && expiry-now >= margin {
				wantForward(t, "in time", r, c, 0, came(10, expiry), trail, api.Right)
			} else {
				wantNoForward(t, "late", r, c, 0, came(10, expiry), trail, api.ErrLate)
			}
		}
	}
	// Written out: the Margin is 3, the height 10.
	for expiry, isIn := range map[uint64]bool{0: false, 9: false, 10: false, 12: false, 13: true, 14: true, 61: true, 1 << 40: true, top: true} {
		if isIn {
			wantForward(t, "in time", plain, c, 0, came(13, expiry), trail, api.Right)
		} else {
			wantNoForward(t, "late", plain, c, 0, came(13, expiry), trail, api.ErrLate)
		}
	}
	upTo(t, c, now+1)
	wantNoForward(t, "late, a block on", plain, c, 0, came(13, 13), trail, api.ErrLate)
	wantForward(t, "in time, a block on", plain, c, 0, came(13, 14), trail, api.Right)
}

// P20.2: of several errors the first one of the chapter's is told.
func TestForwardOrder(t *testing.T) {
	c := streets(t)
	for wrong := range 1 << 7 {
		is := func(place int) bool { return wrong>>place&1 == 1 }
		r, p, who := plain, came(13, 13), 2
		trail := []memo.Hop{{Channel: 1, Amount: 10, Id: 3}, {Channel: 7, Amount: 9, Id: 4}}
		// The last ones first, so that what is wrong is told by the first one that is asked of.
		want := api.OK
		if is(6) {
			p.Expiry, want = 12, api.ErrLate
		}
		if is(5) {
			p.Amount, want = 12, api.ErrFee
		}
		if is(4) {
			r.Fee.Base, want = top-9, api.ErrOver
		}
		if is(3) {
			trail[0].Amount, want = 0, api.ErrRoute
		}
		if is(2) {
			who, want = 3, api.ErrRoute
		}
		if is(1) {
			trail[0].Channel, want = 3, api.ErrRoute
		}
		if is(0) {
			trail, want = nil, api.ErrNone
		}
		if want == api.OK {
			wantForward(t, "nothing wrong", r, c, who, p, trail, api.Left)
		} else {
			wantNoForward(t, "several errors", r, c, who, p, trail, want)
		}
	}
}

// P20.4: amounts of layer 2's Back go on from node to node, just so; each has its Fee, and where one came less, it doesn't go on.
func TestForwardAlong(t *testing.T) {
	c := fresh(t)
	ways := [][2]int{{0, 1}, {2, 1}, {2, 3}, {1, 3}}
	for _, who := range ways {
		must(t, c, court.Tx{Kind: court.Open, From: who[0], To: who[1], Amount: 10})
	}
	nodes, sides := []int{1, 2, 3}, []api.Side{1, 0, 1}
	fees := []money.Fee{{Base: 3, Rate: 70000}, {Rate: 1000000}, {Base: 1}}
	for _, amount := range []uint64{1, 17, 1000, 1 << 40} {
		amounts, e := money.Back(amount, fees...)
		if e != api.OK {
			t.Fatal(e)
		}
		var trail []memo.Hop
		for place, n := range amounts[1:] {
			trail = append(trail, memo.Hop{Channel: uint32(place + 1), Amount: n, Id: 5})
		}
		p := api.Cond{Id: 5, By: 0, Amount: amounts[0], Hash: hashOf(5), Expiry: 30}
		for place, who := range nodes {
			r := clerk.Rules{Fee: fees[place], Margin: 1, Longest: 90}
			short := p
			short.Amount--
			wantNoForward(t, "one less", r, c, who, short, trail, api.ErrFee)
			wantForward(t, "just so", r, c, who, p, trail, sides[place])
			id, w, _ := r.Forward(c, who, p, trail)
			fee, _ := r.Fee.Of(w.Op.Cond.Amount)
			if id != uint32(place+1) || p.Amount-w.Op.Cond.Amount != fee || w.Op.Cond.Hash != p.Hash || w.Op.Cond.Expiry != p.Expiry {
				t.Errorf("P20.4: the node %d: %d, %v; the fee %d", who, id, w, fee)
			}
			p, trail = w.Op.Cond, w.Trail
		}
		if p.Amount != amount || len(trail) != 0 {
			t.Errorf("P20.4: at the end: %v, %v", p, trail)
		}
	}
}
