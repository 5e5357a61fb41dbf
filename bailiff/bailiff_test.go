package bailiff_test

import (
	"math"
	"reflect"
	"slices"
	"sync"
	"testing"

	"tollhouse/api"
	"tollhouse/bailiff"
	"tollhouse/bond"
	"tollhouse/clerk"
	"tollhouse/court"
	"tollhouse/deed"
	"tollhouse/mill"
	"tollhouse/notary"
	"tollhouse/ring"
)

const top = math.MaxUint64

// The court of most tests: four accounts, and one that takes the fees; an order costs 2 at least. Its bonds are 0, of 1 and 2, and 1, of 2 and 0.
const least = 2

// keys are both sides' rings, of the greatest height.
var keys = sync.OnceValue(func() [2]*ring.Ring {
	left, _ := ring.New([32]byte{1}, 8)
	right, _ := ring.New([32]byte{2}, 8)
	return [2]*ring.Ring{left, right}
})

func roots() deed.Roots {
	return deed.Roots{Of: [2]api.Digest{keys()[0].Root(), keys()[1].Root()}, Tall: 8}
}

// signed is a state that both signed, whatever else they signed of that round.
func signed(t *testing.T, s api.State) deed.Deed {
	t.Helper()
	d := deed.Deed{State: s}
	for side, r := range keys() {
		r.Spend(uint32(s.Round))
		sig, e := deed.Again(r, s)
		if e != api.OK {
			t.Fatalf("the round %d can't be signed: %d", s.Round, e)
		}
		d.Sigs[side] = sig
	}
	return d
}

func secretOf(n uint64) api.Secret { return api.Secret{byte(n), byte(n >> 8), 31: 9} }

func hashOf(n uint64) api.Hash { return mill.Lock(secretOf(n)) }

// cond is a payment whose secret hangs on its Id.
func cond(id uint64, by api.Side, amount, expiry uint64) api.Cond {
	return api.Cond{Id: id, By: by, Amount: amount, Hash: hashOf(id), Expiry: expiry}
}

// taken is a state of the bond 0, of a round, of which the sides have taken so much.
func taken(round, left, right uint64, l ...api.Cond) api.State {
	return api.State{Round: round, Taken: [2]uint64{left, right}, Conds: l}
}

func fresh(t *testing.T) *court.Court {
	t.Helper()
	c, e := court.New(least, 1000, 1000, 1000, 1000, 7)
	if e != api.OK {
		t.Fatalf("a court: %d", e)
	}
	return c
}

// alone does an order with its account's next number, and the least fee, in a block of its own: what became of it.
func alone(t *testing.T, c *court.Court, x court.Tx) api.Errno {
	t.Helper()
	x.Nonce, x.Fee = c.Next(x.From), c.Least()
	place := len(c.Pool())
	if e := c.Submit(x); e != api.OK {
		t.Fatalf("an order of the kind %d from %d: %d", x.Kind, x.From, e)
	}
	l, e := c.Block(place)
	if e != api.OK {
		t.Fatalf("a block: %d", e)
	}
	return l[0]
}

func must(t *testing.T, c *court.Court, l ...court.Tx) {
	t.Helper()
	for _, x := range l {
		if e := alone(t, c, x); e != api.OK {
			t.Fatalf("an order of the kind %d from %d: %d", x.Kind, x.From, e)
		}
	}
}

// upTo makes blocks without orders up to a height.
func upTo(t *testing.T, c *court.Court, height uint64) {
	t.Helper()
	for c.Height() < height {
		if _, e := c.Block(); e != api.OK {
			t.Fatalf("a block: %d", e)
		}
	}
	if c.Height() != height {
		t.Fatalf("the height is %d, beyond %d", c.Height(), height)
	}
}

// tellAt tells a secret in the block of that height.
func tellAt(t *testing.T, c *court.Court, height, n uint64) {
	t.Helper()
	upTo(t, c, height-1)
	must(t, c, court.Tx{Kind: court.Tell, From: 3, Secret: secretOf(n)})
}

// bonded is a court with both bonds, at the height 3.
func bonded(t *testing.T) *court.Court {
	t.Helper()
	c := fresh(t)
	must(t, c,
		court.Tx{Kind: court.Open, From: 1, To: 2, Amount: 50, Roots: roots()},
		court.Tx{Kind: court.Put, From: 2, Bond: 0, Amount: 50},
		court.Tx{Kind: court.Open, From: 2, To: 0, Amount: 50, Roots: roots()})
	return c
}

// fought is that court, at the height 4, the bond 0 being fought until 9.
func fought(t *testing.T, d deed.Deed) *court.Court {
	t.Helper()
	c := bonded(t)
	must(t, c, court.Tx{Kind: court.Fight, From: 2, Deed: d})
	if b, _ := c.Bond(0); b.Phase != bond.Fought || b.Until != 9 || c.Height() != 4 {
		t.Fatalf("the phase %d until %d, at %d", b.Phase, b.Until, c.Height())
	}
	return c
}

// bare is an order whose lists are nil, if they are empty.
func bare(x court.Tx) court.Tx {
	x.Rule = append([]byte(nil), x.Rule...)
	x.Deed.Conds = append([]api.Cond(nil), x.Deed.Conds...)
	for side := range x.Deed.Sigs {
		x.Deed.Sigs[side].Way = append([]api.Digest(nil), x.Deed.Sigs[side].Way...)
	}
	return x
}

func bareAll(l []court.Tx) []court.Tx {
	var all []court.Tx
	for _, x := range l {
		all = append(all, bare(x))
	}
	return all
}

func kinds(l []court.Tx) []int {
	var all []int
	for _, x := range l {
		all = append(all, x.Kind)
	}
	return all
}

// The chapter's example.
func TestExample(t *testing.T) {
	c := bonded(t)
	if l := bailiff.Orders(c, clerk.Rules{}, 1, deed.First(0)); len(l) != 0 {
		t.Errorf("P21.2: Orders: %v", kinds(l))
	}
}

// wantSince: since when a payment could be settled; 0: it can't be.
func wantSince(t *testing.T, name string, c *court.Court, p api.Cond, want uint64) {
	t.Helper()
	if at, can := bailiff.Since(c, p); at != want || can != (want > 0) {
		t.Errorf("P21.1: %s: Since up to %d: %d, %t; want %d", name, p.Expiry, at, can, want)
	}
}

// P21.1: Since, by each verdict, whoever pays.
func TestSince(t *testing.T) {
	c := fresh(t)
	tellAt(t, c, 3, 1)
	tellAt(t, c, 7, 2)
	tellAt(t, c, 10, 3)
	for _, by := range []api.Side{0, 1, -1, 2} {
		for _, w := range []struct{ n, expiry, want uint64 }{
			{1, 3, 3}, {1, 4, 3}, {1, 9, 3}, {1, 10, 3}, {1, 11, 3}, {1, top, 3},
			{1, 0, 1}, {1, 1, 2}, {1, 2, 3},
			{2, 6, 7}, {2, 7, 7}, {2, 8, 7}, {2, 5, 6}, {2, top, 7},
			{3, 8, 9}, {3, 9, 10}, {3, 10, 10}, {3, 11, 10}, {3, top, 10},
			{4, 0, 1}, {4, 8, 9}, {4, 9, 10}, {4, 10, 0}, {4, 11, 0}, {4, 1 << 32, 0}, {4, 1 << 63, 0}, {4, top - 1, 0}, {4, top, 0},
		} {
			wantSince(t, "at 10", c, cond(w.n, by, 5, w.expiry), w.want)
		}
	}
	// Told too late it is still void since its Expiry and 1.
	tellAt(t, c, 14, 4)
	wantSince(t, "told too late", c, cond(4, 0, 5, 12), 13)
	wantSince(t, "told too late", c, cond(4, 0, 5, 13), 14)
	wantSince(t, "told in time", c, cond(4, 0, 5, 14), 14)
}

// P21.1: Since at heights that go on: what it once is it stays.
func TestSinceOn(t *testing.T) {
	c := fresh(t)
	for height := range uint64(12) {
		upTo(t, c, height)
		for expiry := range uint64(9) {
			want := uint64(0)
			if height > expiry {
				want = expiry + 1
			}
			wantSince(t, "never told", c, cond(9, 0, 5, expiry), want)
		}
	}
	for range 5 {
		must(t, c, court.Tx{From: 3, Kind: court.Tell, Secret: secretOf(c.Height())})
		for n := uint64(11); n < c.Height(); n++ {
			wantSince(t, "told", c, cond(n, 1, 5, 40), n+1)
			wantSince(t, "told just in time", c, cond(n, 1, 5, n+1), n+1)
			wantSince(t, "told one too late", c, cond(n, 1, 5, n), n+1)
		}
	}
}

// P21.1: without a court nothing can be settled, nor is it overdue.
func TestNoCourt(t *testing.T) {
	for _, expiry := range []uint64{0, 1, top} {
		p := cond(1, 0, 5, expiry)
		wantSince(t, "no court", nil, p, 0)
		if bailiff.Overdue(nil, clerk.Rules{}, taken(1, 0, 0, p)) {
			t.Error("P21.1: Overdue without a court")
		}
	}
}

// patient are rules with that Patience.
func patient(n uint64) clerk.Rules { return clerk.Rules{Patience: n, Margin: 1, Longest: 1} }

// wantOverdue: a state is overdue with the Patience of that, and with any that is less, but not with one more.
func wantOverdue(t *testing.T, name string, c *court.Court, s api.State, most uint64) {
	t.Helper()
	before := slices.Clone(s.Conds)
	for _, n := range []uint64{0, most / 2, most - min(most, 1), most} {
		if !bailiff.Overdue(c, patient(n), s) {
			t.Errorf("P21.1: %s: not Overdue at %d, with the Patience %d", name, c.Height(), n)
		}
	}
	for _, n := range []uint64{most + 1, most + 2, 100, 101, 1 << 63, top} {
		if n > most && bailiff.Overdue(c, patient(n), s) {
			t.Errorf("P21.1: %s: Overdue at %d, with the Patience %d", name, c.Height(), n)
		}
	}
	if !slices.Equal(s.Conds, before) {
		t.Errorf("R3: %s: Overdue changed the state", name)
	}
}

// wantNotOverdue: with no Patience at all.
func wantNotOverdue(t *testing.T, name string, c *court.Court, s api.State) {
	t.Helper()
	for _, n := range []uint64{0, 1, 100, top} {
		if bailiff.Overdue(c, patient(n), s) {
			t.Errorf("P21.1: %s: Overdue at %d, with the Patience %d", name, c.Height(), n)
		}
	}
}

// P21.1: a state is overdue by any of its payments, from Patience blocks behind on.
func TestOverdue(t *testing.T) {
	c := fresh(t)
	tellAt(t, c, 5, 1)
	paid, void, open := cond(1, 0, 5, 90), cond(2, 1, 5, 8), cond(3, 0, 5, top)
	for _, s := range []api.State{{}, taken(1, 2, 3), taken(1, 2, 3, open), taken(1, 2, 3, open, void), taken(1, 2, 3, void, open, open)} {
		wantNotOverdue(t, "nothing to be settled", c, s)
	}
	wantOverdue(t, "just now", c, taken(1, 0, 0, paid), 0)
	upTo(t, c, 8)
	wantOverdue(t, "paid", c, taken(1, 0, 0, paid), 3)
	wantNotOverdue(t, "open, for the last time", c, taken(1, 0, 0, void))
	upTo(t, c, 9)
	wantOverdue(t, "void just now", c, taken(1, 0, 0, void), 0)
	for _, height := range []uint64{10, 11, 105, 109, 110} {
		upTo(t, c, height)
		wantOverdue(t, "paid", c, taken(1, 0, 0, paid), height-5)
		wantOverdue(t, "void", c, taken(1, 0, 0, void), height-9)
		wantNotOverdue(t, "open", c, taken(1, 0, 0, open))
		// The one that waits longest counts, wherever it stands.
		for _, l := range [][]api.Cond{{paid, void, open}, {open, void, paid}, {void, paid}, {open, open, paid}, {void, void, void, open, paid, void}} {
			wantOverdue(t, "several", c, taken(1, 0, 0, l...), height-5)
		}
		for _, l := range [][]api.Cond{{void, open}, {open, void, open}, {open, open, open, open, open, open, open, void}} {
			wantOverdue(t, "several", c, taken(1, 0, 0, l...), height-9)
		}
	}
}

// P21.1: only Patience is asked of the rules, and only payments of the state.
func TestOverdueAlone(t *testing.T) {
	c := fresh(t)
	upTo(t, c, 9)
	for _, s := range []api.State{taken(0, 0, 0, cond(1, 0, 5, 4)), {Channel: 99, Round: top, Conds: []api.Cond{cond(1, 7, 0, 4)}}} {
		for _, r := range []clerk.Rules{{Patience: 4}, {Patience: 4, Margin: top, Longest: top}, {Patience: 4, Margin: 5, Longest: 1}} {
			if !bailiff.Overdue(c, r, s) {
				t.Errorf("P21.1: %v: not Overdue", r)
			}
			r.Patience++
			if bailiff.Overdue(c, r, s) {
				t.Errorf("P21.1: %v: Overdue", r)
			}
		}
	}
}

// P21.1: what Since tells is where the verdict of layer 10 turned.
func TestSinceIsWhereItTurned(t *testing.T) {
	c := fresh(t)
	var l []api.Cond
	for n := range uint64(6) {
		for expiry := range uint64(16) {
			l = append(l, cond(n, 0, 5, expiry))
		}
	}
	turned := map[api.Cond]uint64{}
	for c.Height() < 20 {
		if h := c.Height(); h%3 == 1 {
			must(t, c, court.Tx{Kind: court.Tell, From: 3, Secret: secretOf(h / 3)})
		} else {
			upTo(t, c, h+1)
		}
		for _, p := range l {
			if _, was := turned[p]; !was && c.Verdict(p) != notary.Open {
				turned[p] = c.Height()
			}
			wantSince(t, "each height", c, p, turned[p])
		}
	}
	if len(turned) != len(l) {
		t.Errorf("%d of %d verdicts turned", len(turned), len(l))
	}
}

func sameOrders(a, b []court.Tx) bool { return reflect.DeepEqual(bareAll(a), bareAll(b)) }
