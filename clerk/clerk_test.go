package clerk_test

import (
	"math"
	"slices"
	"testing"

	"tollhouse/api"
	"tollhouse/clerk"
	"tollhouse/court"
	"tollhouse/memo"
	"tollhouse/mill"
	"tollhouse/money"
	"tollhouse/notary"
	"tollhouse/pact"
)

const top = math.MaxUint64

// farSides are no sides.
var farSides = []api.Side{-1, 2, 3, 128, 255, 256, 257, 1 << 32, 1<<32 + 1, -256, math.MinInt, math.MaxInt}

// farKinds are numbers of no kind of a wish.
var farKinds = []int{-1, -2, 6, 7, 127, 128, 255, 256, 257, 258, 259, 260, 261, 1<<32 + 3, -253, -252, math.MinInt, math.MaxInt}

// fresh is a court of four accounts, and one that takes the fees; an order costs nothing.
func fresh(t *testing.T) *court.Court {
	t.Helper()
	c, e := court.New(0, 100, 200, 300, 400, 7)
	if e != api.OK {
		t.Fatalf("a court: %d", e)
	}
	return c
}

// must does orders in one block, all of which must go through.
func must(t *testing.T, c *court.Court, l ...court.Tx) {
	t.Helper()
	var picks []int
	next := map[int]uint64{}
	for place, x := range l {
		x.Nonce = c.Next(x.From) + next[x.From]
		next[x.From]++
		if e := c.Submit(x); e != api.OK {
			t.Fatalf("an order of the kind %d from %d: %d", x.Kind, x.From, e)
		}
		picks = append(picks, place)
	}
	errs, e := c.Block(picks...)
	if e != api.OK || slices.ContainsFunc(errs, func(e api.Errno) bool { return e != api.OK }) {
		t.Fatalf("a block of %d orders: %d, %d", len(l), errs, e)
	}
}

// upTo makes blocks without orders up to a height.
func upTo(t *testing.T, c *court.Court, height uint64) {
	t.Helper()
	for c.Height() < height {
		must(t, c)
	}
}

// tell tells secrets in the block of that height.
func tell(t *testing.T, c *court.Court, height uint64, l ...uint64) {
	t.Helper()
	upTo(t, c, height-1)
	var orders []court.Tx
	for _, n := range l {
		orders = append(orders, court.Tx{Kind: court.Tell, From: 3, Secret: secretOf(n)})
	}
	must(t, c, orders...)
}

func secretOf(n uint64) api.Secret { return api.Secret{byte(n), byte(n >> 8), 31: 9} }

func hashOf(n uint64) api.Hash { return mill.Lock(secretOf(n)) }

// cond is a payment whose secret hangs on its Id.
func cond(id uint64, by api.Side, amount, expiry uint64) api.Cond {
	return api.Cond{Id: id, By: by, Amount: amount, Hash: hashOf(id), Expiry: expiry}
}

func stateOf(l ...api.Cond) api.State {
	return api.State{Channel: 3, Round: 5, Moved: [2]uint64{1, 2}, Taken: [2]uint64{3, 4}, Conds: l}
}

// now is the height of the scene.
const now = 10

// scene is a court at the height now, to which some secrets were told: of which number at which height.
func scene(t *testing.T) (*court.Court, map[uint64]uint64) {
	t.Helper()
	c := fresh(t)
	told := map[uint64]uint64{1: 3, 2: 7, 3: now, 4: now}
	tell(t, c, 3, 1)
	tell(t, c, 7, 2)
	tell(t, c, now, 3, 4)
	if c.Height() != now || c.Told() != len(told) {
		t.Fatalf("the scene is at %d, %d secrets were told", c.Height(), c.Told())
	}
	return c, told
}

// expiries are those at which a verdict turns in the scene, and those about them.
var expiries = []uint64{0, 2, 3, 4, 6, 7, 8, now - 1, now, now + 1, 1 << 32, top - 1, top}

// verdict is that on a payment in the scene whose secret's number is its Id, by the chapters' words.
func verdict(told map[uint64]uint64, height uint64, p api.Cond) notary.Verdict {
	if at, is := told[p.Id]; is && at <= p.Expiry {
		return notary.Paid
	}
	if height > p.Expiry {
		return notary.Void
	}
	return notary.Open
}

func done(id uint64) pact.Op { return pact.Op{Kind: pact.Done, Id: id} }

func undo(id uint64) pact.Op { return pact.Op{Kind: pact.Undo, Id: id} }

func sameWish(a, b clerk.Wish) bool { return a.Op == b.Op && slices.Equal(a.Trail, b.Trail) }

func sameWishes(a, b []clerk.Wish) bool { return slices.EqualFunc(a, b, sameWish) }

// hops are so many, no two alike.
func hops(many int) []memo.Hop {
	var l []memo.Hop
	for i := range many {
		l = append(l, memo.Hop{Channel: uint32(i+1) << 24, Amount: top - uint64(i), Id: uint64(i + 1)})
	}
	return l
}

// The chapter's example.
func TestExample(t *testing.T) {
	c := fresh(t)
	tell(t, c, 2, 4)
	s := stateOf(cond(4, api.Left, 5, 9))
	if l := clerk.Settle(c, s); !sameWishes(l, []clerk.Wish{{Op: done(4)}}) {
		t.Errorf("P20.1: Settle: %v", l)
	}
	for by := api.Left; by <= api.Right; by++ {
		if e := (clerk.Rules{}).Allows(c, s, by, done(4)); e != api.OK {
			t.Errorf("P20.1: Allows a Done by %d: %d", by, e)
		}
	}
}

// may are values of a field of rules, and whether rules may be with each.
type may map[uint64]bool

// P20.1: which rules may be.
func TestRulesRight(t *testing.T) {
	margins := may{0: false, 1: true, 2: true, 99: true, 100: true, 101: false, 1 << 32: false, 1<<32 + 1: false, top: false}
	patiences := may{0: true, 1: true, 99: true, 100: true, 101: false, 1 << 32: false, top: false}
	longests := may{0: false, 1: true, 2: true, 9999: true, 10000: true, 10001: false, 1 << 32: false, 1<<32 + 1: false, top: false}
	rates := may{0: true, 1: true, 999999: true, 1000000: true, 1000001: false, 1 << 32: false, top: false}
	for margin, a := range margins {
		for patience, b := range patiences {
			for longest, d := range longests {
				for rate, f := range rates {
					for _, base := range []uint64{0, 1, 1 << 32, top} {
						r := clerk.Rules{Fee: money.Fee{Base: base, Rate: rate}, Margin: margin, Patience: patience, Longest: longest}
						if got := r.Right(); got != (a && b && d && f) {
							t.Errorf("P20.1: %v: Right: %t", r, got)
						}
					}
				}
			}
		}
	}
	if (clerk.Rules{}).Right() {
		t.Error("P20.1: Right of nothing")
	}
}

// settled are the wishes that Settle must answer in the scene.
func settled(told map[uint64]uint64, height uint64, s api.State) []clerk.Wish {
	var l []clerk.Wish
	for _, p := range s.Conds {
		switch verdict(told, height, p) {
		case notary.Paid:
			l = append(l, clerk.Wish{Op: done(p.Id)})
		case notary.Void:
			l = append(l, clerk.Wish{Op: undo(p.Id)})
		}
	}
	return l
}

// P20.1: Settle of one payment, by each verdict, on both sides of where it turns.
func TestSettleOne(t *testing.T) {
	c, told := scene(t)
	met := map[notary.Verdict]int{}
	for n := range uint64(6) {
		for _, expiry := range expiries {
			for _, by := range []api.Side{0, 1, 2, -1} {
				s := stateOf(cond(n, by, 5, expiry))
				want := settled(told, now, s)
				if got := clerk.Settle(c, s); !sameWishes(got, want) {
					t.Errorf("P20.1: Settle of the secret %d, up to %d: %v; want %v", n, expiry, got, want)
				}
				met[verdict(told, now, s.Conds[0])]++
			}
		}
	}
	if len(met) != 3 {
		t.Errorf("not each verdict was met: %v", met)
	}
}

// P20.1: Settle, written out: nothing pending, all three verdicts, in order, whoever pays.
func TestSettle(t *testing.T) {
	c, _ := scene(t)
	for _, s := range []api.State{{}, stateOf(), pact.New(9), {Conds: []api.Cond{}}} {
		if l := clerk.Settle(c, s); len(l) != 0 {
			t.Errorf("P20.1: Settle of a state without a payment: %v", l)
		}
	}
	paid, void, open := cond(1, 0, 5, 3), cond(2, 1, 6, 6), cond(9, 0, 7, now)
	for _, w := range []struct {
		s    api.State
		want []clerk.Wish
	}{
		{stateOf(open), nil},
		{stateOf(open, cond(8, 1, 1, top)), nil},
		{stateOf(paid, void, open), []clerk.Wish{{Op: done(1)}, {Op: undo(2)}}},
		{stateOf(open, void, paid), []clerk.Wish{{Op: undo(2)}, {Op: done(1)}}},
		{stateOf(void, open, paid), []clerk.Wish{{Op: undo(2)}, {Op: done(1)}}},
		{stateOf(cond(3, 1, 1, now), cond(top, 0, 1, now-1), cond(4, 0, 1, now)), []clerk.Wish{{Op: done(3)}, {Op: undo(top)}, {Op: done(4)}}},
		{stateOf(cond(5, 1, 1, 0), cond(4, 0, 1, 1), cond(3, 0, 1, 2), cond(2, 1, 1, 3), cond(1, 0, 1, 4), cond(0, 1, 1, 5), cond(7, 1, 1, 6), cond(6, 0, 1, 7)),
			[]clerk.Wish{{Op: undo(5)}, {Op: undo(4)}, {Op: undo(3)}, {Op: undo(2)}, {Op: done(1)}, {Op: undo(0)}, {Op: undo(7)}, {Op: undo(6)}}},
	} {
		if got := clerk.Settle(c, w.s); !sameWishes(got, w.want) {
			t.Errorf("P20.1: Settle of %v: %v; want %v", w.s.Conds, got, w.want)
		}
	}
	// The book is asked of hashes, not of Ids: two payments by one secret.
	twice := stateOf(cond(1, 0, 5, 9), api.Cond{Id: 7, By: 1, Amount: 2, Hash: hashOf(1), Expiry: 2})
	if got := clerk.Settle(c, twice); !sameWishes(got, []clerk.Wish{{Op: done(1)}, {Op: undo(7)}}) {
		t.Errorf("P20.1: Settle of two payments by one secret: %v", got)
	}
}

// P20.1: Settle at heights that go on.
func TestSettleOn(t *testing.T) {
	c := fresh(t)
	s := stateOf(cond(1, 0, 5, 4), cond(2, 1, 5, 6))
	for height := range uint64(9) {
		upTo(t, c, height)
		var want []clerk.Wish
		if height > 4 {
			want = append(want, clerk.Wish{Op: undo(1)})
		}
		if height > 6 {
			want = append(want, clerk.Wish{Op: undo(2)})
		}
		if got := clerk.Settle(c, s); !sameWishes(got, want) {
			t.Errorf("P20.1: Settle at %d: %v; want %v", height, got, want)
		}
	}
}

// P20.1: of no court there is no verdict, at the height 0.
func TestNoCourt(t *testing.T) {
	p := cond(1, 0, 5, 0)
	if l := clerk.Settle(nil, stateOf(p, cond(2, 1, 5, 9))); len(l) != 0 {
		t.Errorf("P20.1: Settle without a court: %v", l)
	}
	r := clerk.Rules{Margin: 1, Longest: 5}
	for _, w := range []struct {
		by   api.Side
		op   pact.Op
		want api.Errno
	}{
		{0, done(1), api.OK}, {1, done(1), api.ErrEarly}, {1, undo(1), api.OK}, {0, undo(1), api.ErrEarly}, {0, done(2), api.ErrNone},
		{0, lockUpTo(0), api.ErrLate}, {0, lockUpTo(1), api.OK}, {0, lockUpTo(5), api.OK}, {0, lockUpTo(6), api.ErrEarly}, {0, pact.Op{}, api.OK},
	} {
		if e := r.Allows(nil, stateOf(p), w.by, w.op); e != w.want {
			t.Errorf("P20.1: Allows without a court: %v by %d: %d; want %d", w.op, w.by, e, w.want)
		}
	}
	for _, trail := range [][]memo.Hop{nil, hops(1), {{Channel: 0, Amount: 1}}} {
		want := api.ErrRoute
		if len(trail) == 0 {
			want = api.ErrNone
		}
		if id, w, e := r.Forward(nil, 0, p, trail); id != 0 || !sameWish(w, clerk.Wish{}) || e != want {
			t.Errorf("P20.2: Forward without a court: %d, %v, %d; want %d", id, w, e, want)
		}
	}
}

func lockUpTo(expiry uint64) pact.Op {
	return pact.Op{Kind: pact.Lock, Cond: api.Cond{Id: 1, Amount: 5, Expiry: expiry}}
}

// P20.1: Done and Undo of each side's payments, by each verdict: gifts go whatever the verdict is.
func TestAllowsTakingOut(t *testing.T) {
	c, _ := scene(t)
	paid, void, open := notary.Paid, notary.Void, notary.Open
	up := map[notary.Verdict]uint64{paid: 3, void: 2, open: now}
	secret := map[notary.Verdict]uint64{paid: 1, void: 2, open: 9}
	for _, w := range []struct {
		kind    int
		isOwn   bool
		verdict notary.Verdict
		want    api.Errno
	}{
		{pact.Done, true, paid, api.OK}, {pact.Done, true, void, api.OK}, {pact.Done, true, open, api.OK},
		{pact.Done, false, paid, api.OK}, {pact.Done, false, void, api.ErrEarly}, {pact.Done, false, open, api.ErrEarly},
		{pact.Undo, false, paid, api.OK}, {pact.Undo, false, void, api.OK}, {pact.Undo, false, open, api.OK},
		{pact.Undo, true, paid, api.ErrEarly}, {pact.Undo, true, void, api.OK}, {pact.Undo, true, open, api.ErrEarly},
	} {
		for by := api.Left; by <= api.Right; by++ {
			whose := by
			if !w.isOwn {
				whose = 1 - by
			}
			p := api.Cond{Id: 77, By: whose, Amount: 5, Hash: hashOf(secret[w.verdict]), Expiry: up[w.verdict]}
			if c.Verdict(p) != w.verdict {
				t.Fatalf("the verdict is %d, not %d", c.Verdict(p), w.verdict)
			}
			// Others about it, of other verdicts, make no difference.
			for _, s := range []api.State{stateOf(p), stateOf(cond(1, by, 1, 3), cond(9, 1-by, 1, now), p, cond(5, whose, 1, 2)), {Conds: []api.Cond{p}}} {
				if e := (clerk.Rules{}).Allows(c, s, by, pact.Op{Kind: w.kind, Id: 77}); e != w.want {
					t.Errorf("P20.1: Allows the kind %d by %d of a payment by %d, %d: %d; want %d", w.kind, by, whose, w.verdict, e, w.want)
				}
			}
		}
	}
}

// P20.1: whose a payment is is held against the side as it is, also if there is no such side.
func TestAllowsFarSides(t *testing.T) {
	c, _ := scene(t)
	for _, far := range farSides {
		for _, whose := range []api.Side{0, 1, far} {
			s := stateOf(cond(9, whose, 5, now))
			for _, op := range []pact.Op{done(9), undo(9)} {
				want := api.ErrEarly
				if (whose == far) == (op.Kind == pact.Done) {
					want = api.OK
				}
				if e := (clerk.Rules{}).Allows(c, s, far, op); e != want {
					t.Errorf("P20.1: Allows the kind %d by %d of a payment by %d: %d; want %d", op.Kind, far, whose, e, want)
				}
			}
			want := api.OK
			if whose == api.Left {
				want = api.ErrEarly
			}
			if e := (clerk.Rules{}).Allows(c, s, api.Left, undo(9)); e != want {
				t.Errorf("P20.1: Allows an Undo by Left of a payment by %d: %d; want %d", whose, e, want)
			}
		}
	}
}

// P20.1: Done and Undo of an Id that isn't pending, whatever else the wish has.
func TestAllowsNone(t *testing.T) {
	c, _ := scene(t)
	for _, s := range []api.State{{}, stateOf(), stateOf(cond(1, 0, 5, 3), cond(9, 1, 5, now))} {
		for _, id := range []uint64{0, 2, 8, 257, 1<<32 + 1, 1<<63 + 9, top} {
			for by := api.Left; by <= api.Right; by++ {
				for _, kind := range []int{pact.Done, pact.Undo} {
					op := pact.Op{Kind: kind, Id: id, Amount: 1, Cond: cond(1, 0, 5, 3)}
					if e := (clerk.Rules{Longest: 9}).Allows(c, s, by, op); e != api.ErrNone {
						t.Errorf("P20.1: Allows the kind %d of %d: %d", kind, id, e)
					}
				}
			}
		}
	}
}

// P20.1: of a state with two payments of one Id, which may not be, the first one counts, as layer 12 takes it out.
func TestAllowsTwice(t *testing.T) {
	c, _ := scene(t)
	paid, open := cond(1, 0, 5, 3), cond(1, 0, 5, 3)
	open.Hash, open.Expiry = hashOf(9), now
	for _, w := range []struct {
		s    api.State
		want api.Errno
	}{{stateOf(paid, open), api.OK}, {stateOf(open, paid), api.ErrEarly}} {
		if e := (clerk.Rules{}).Allows(c, w.s, api.Right, done(1)); e != w.want {
			t.Errorf("P20.1: Allows a Done of %v: %d; want %d", w.s.Conds, e, w.want)
		}
	}
}

// P20.1: a Lock's Expiry is above the height, and at most Longest above it.
func TestAllowsLock(t *testing.T) {
	for _, height := range []uint64{0, 1, now} {
		c := fresh(t)
		upTo(t, c, height)
		for _, longest := range []uint64{0, 1, 2, 5, 10000, 10001, 1 << 63, top - 11, top - now, top - 1, top} {
			for _, expiry := range []uint64{0, height - 1, height, height + 1, height + 2, height + longest - 1, height + longest, height + longest + 1, 1 << 63, top - 11, top - 1, top} {
				want := api.OK
				switch {
				case expiry <= height:
					want = api.ErrLate
				case expiry-height > longest:
					want = api.ErrEarly
				}
				r := clerk.Rules{Longest: longest}
				for by := api.Left; by <= api.Right; by++ {
					if e := r.Allows(c, stateOf(), by, lockUpTo(expiry)); e != want {
						t.Errorf("P20.1: Allows a Lock up to %d at %d, %d at the longest: %d; want %d", expiry, height, longest, e, want)
					}
				}
			}
		}
	}
}

// P20.1: a Lock's errors, written out.
func TestAllowsLockWrittenOut(t *testing.T) {
	c, _ := scene(t)
	r := clerk.Rules{Margin: 1, Longest: 50}
	for expiry, want := range map[uint64]api.Errno{
		0: api.ErrLate, 9: api.ErrLate, 10: api.ErrLate, 11: api.OK, 59: api.OK, 60: api.OK, 61: api.ErrEarly,
		1 << 32: api.ErrEarly, 1<<32 + 11: api.ErrEarly, 1<<63 + 20: api.ErrEarly, top: api.ErrEarly,
	} {
		if e := r.Allows(c, stateOf(), api.Left, lockUpTo(expiry)); e != want {
			t.Errorf("P20.1: Allows a Lock up to %d: %d; want %d", expiry, e, want)
		}
	}
	// Neither the state, nor what else the payment has, is asked.
	s := stateOf(cond(1, 0, 5, 3), cond(1, 0, 5, 3))
	for _, p := range []api.Cond{{Expiry: 20}, {Id: 1, By: 1, Expiry: 20}, {Id: 1, By: 9, Amount: top, Hash: hashOf(1), Expiry: 20}} {
		for _, by := range []api.Side{0, 1, 5} {
			if e := r.Allows(c, s, by, pact.Op{Kind: pact.Lock, Id: 4, Amount: 7, Cond: p}); e != api.OK {
				t.Errorf("P20.1: Allows a Lock of %v by %d: %d", p, by, e)
			}
		}
	}
}

// P20.1: all but Lock, Done and Undo is allowed.
func TestAllowsAllElse(t *testing.T) {
	c, _ := scene(t)
	s := stateOf(cond(9, 0, 5, now))
	for _, kind := range append(slices.Clone(farKinds), pact.Pass, pact.Pay, pact.Take) {
		for _, by := range append(slices.Clone(farSides), 0, 1) {
			for _, op := range []pact.Op{{}, {Amount: top, Id: 9}, {Id: 4, Cond: cond(9, 0, 5, top)}, {Id: 9, Cond: cond(9, 1, 5, 0)}} {
				op.Kind = kind
				for _, at := range []*court.Court{c, nil} {
					if e := (clerk.Rules{}).Allows(at, s, by, op); e != api.OK {
						t.Errorf("P20.1: Allows the kind %d by %d: %d", kind, by, e)
					}
				}
			}
		}
	}
}
