package clerk_test

import (
	"math/big"
	"math/rand"
	"slices"
	"testing"

	"tollhouse/api"
	"tollhouse/clerk"
	"tollhouse/court"
	"tollhouse/memo"
	"tollhouse/money"
	"tollhouse/notary"
	"tollhouse/pact"
)

// secrets is how many secrets there are by chance.
const secrets = 10

// dice are what tests take by chance, the same each time; with what was told at which height.
type dice struct {
	*rand.Rand
	c    *court.Court
	told map[uint64]uint64
	ends [][2]int
}

func (d *dice) pick(l ...uint64) uint64 { return l[d.Intn(len(l))] }

// newDice are some with a court of bonds, blocks and secrets by chance.
func newDice(t *testing.T, seed int64) *dice {
	t.Helper()
	d := &dice{Rand: rand.New(rand.NewSource(seed)), c: fresh(t), told: map[uint64]uint64{}}
	for range d.Intn(4) {
		who := [2]int{d.Intn(4), 0}
		who[1] = (who[0] + 1 + d.Intn(3)) % 4
		must(t, d.c, court.Tx{Kind: court.Open, From: who[0], To: who[1], Amount: 1})
		d.ends = append(d.ends, who)
	}
	for range d.Intn(8) {
		upTo(t, d.c, d.c.Height()+uint64(d.Intn(4)))
		n := uint64(d.Intn(secrets))
		if _, is := d.told[n]; !is {
			tell(t, d.c, d.c.Height()+1, n)
			d.told[n] = d.c.Height()
		}
	}
	return d
}

// expiry is one about the height, most often.
func (d *dice) expiry() uint64 {
	if d.Intn(8) == 0 {
		return d.pick(0, 1, 1<<32, 1<<63, top-1, top)
	}
	return uint64(max(0, int(d.c.Height())+d.Intn(25)-12))
}

// cond is a payment whose secret isn't by its Id.
func (d *dice) cond(id uint64) api.Cond {
	return api.Cond{Id: id, By: api.Side(d.Intn(2)), Amount: 1 + uint64(d.Intn(9)), Hash: hashOf(uint64(d.Intn(secrets))), Expiry: d.expiry()}
}

// state is one that may be.
func (d *dice) state() api.State {
	s := api.State{Channel: d.Uint32(), Round: uint64(d.Intn(201))}
	for _, id := range d.Perm(20)[:d.Intn(9)] {
		s.Conds = append(s.Conds, d.cond(uint64(id)))
	}
	return s
}

func (d *dice) rules() clerk.Rules {
	return clerk.Rules{
		Fee:    money.Fee{Base: d.pick(0, 1, 5), Rate: d.pick(0, 10000, 500000, 1000000)},
		Margin: d.pick(1, 1, 2, 5, 100), Patience: d.pick(0, 3), Longest: d.pick(1, 5, 10, 10000),
	}
}

// numberOf is whose number a hash's secret has; there is one.
func numberOf(h api.Hash) uint64 {
	n := uint64(0)
	for hashOf(n) != h {
		n++
	}
	return n
}

func (d *dice) verdict(p api.Cond) notary.Verdict {
	if at, is := d.told[numberOf(p.Hash)]; is && at <= p.Expiry {
		return notary.Paid
	}
	if d.c.Height() > p.Expiry {
		return notary.Void
	}
	return notary.Open
}

// settle, allows, forward and claims are what the chapter's words make of these calls.
func (d *dice) settle(s api.State) []clerk.Wish {
	kinds := map[notary.Verdict]int{notary.Paid: 3, notary.Void: 4}
	var l []clerk.Wish
	for _, p := range s.Conds {
		if kind := kinds[d.verdict(p)]; kind > 0 {
			l = append(l, clerk.Wish{Op: pact.Op{Kind: kind, Id: p.Id}})
		}
	}
	return l
}

func (d *dice) allows(r clerk.Rules, s api.State, by api.Side, op pact.Op) api.Errno {
	height := new(big.Int).SetUint64(d.c.Height())
	switch op.Kind {
	case 2:
		over := new(big.Int).Sub(new(big.Int).SetUint64(op.Cond.Expiry), height)
		if over.Sign() <= 0 {
			return api.ErrLate
		}
		if over.Cmp(new(big.Int).SetUint64(r.Longest)) > 0 {
			return api.ErrEarly
		}
	case 3, 4:
		for _, p := range s.Conds {
			if p.Id != op.Id {
				continue
			}
			v := d.verdict(p)
			if op.Kind == 3 && (p.By == by || v == notary.Paid) || op.Kind == 4 && (p.By != by || v == notary.Void) {
				return api.OK
			}
			return api.ErrEarly
		}
		return api.ErrNone
	}
	return api.OK
}

func (d *dice) forward(r clerk.Rules, who int, p api.Cond, trail []memo.Hop) (uint32, clerk.Wish, api.Errno) {
	if len(trail) == 0 {
		return 0, clerk.Wish{}, api.ErrNone
	}
	h := trail[0]
	if int64(h.Channel) >= int64(len(d.ends)) || h.Amount == 0 {
		return 0, clerk.Wish{}, api.ErrRoute
	}
	side := slices.Index(d.ends[h.Channel][:], who)
	if side < 0 {
		return 0, clerk.Wish{}, api.ErrRoute
	}
	n := func(x uint64) *big.Int { return new(big.Int).SetUint64(x) }
	over := new(big.Int).Mul(n(h.Amount), n(r.Fee.Rate))
	over.Div(over, n(1000000))
	over.Add(over, n(r.Fee.Base))
	over.Add(over, n(h.Amount))
	if over.BitLen() > 64 {
		return 0, clerk.Wish{}, api.ErrOver
	}
	if over.Cmp(n(p.Amount)) > 0 {
		return 0, clerk.Wish{}, api.ErrFee
	}
	if new(big.Int).Add(n(d.c.Height()), n(r.Margin)).Cmp(n(p.Expiry)) > 0 {
		return 0, clerk.Wish{}, api.ErrLate
	}
	lock := api.Cond{Id: h.Id, By: api.Side(side), Amount: h.Amount, Hash: p.Hash, Expiry: p.Expiry}
	return h.Channel, clerk.Wish{Op: pact.Op{Kind: 2, Cond: lock}, Trail: trail[1:]}, api.OK
}

func (d *dice) claims(r clerk.Rules, s api.State, side api.Side, known map[uint64]bool) []api.Secret {
	var l []uint64
	for _, p := range s.Conds {
		n := numberOf(p.Hash)
		_, was := d.told[n]
		isIn := p.Expiry >= d.c.Height() && p.Expiry-d.c.Height() >= r.Margin
		if p.By != side && known[n] && d.verdict(p) == notary.Open && !was && isIn && !slices.Contains(l, n) {
			l = append(l, n)
		}
	}
	return secretsOf(l...)
}

// P20.1, P20.4: Settle and Allows by chance, against the book; and what Settle wants Allows lets either side have.
func TestSettleByChance(t *testing.T) {
	met := map[int]map[api.Errno]int{}
	settles := 0
	for seed := range int64(200) {
		d := newDice(t, seed)
		for range 40 {
			s, r := d.state(), d.rules()
			l := clerk.Settle(d.c, s)
			if want := d.settle(s); !sameWishes(l, want) {
				t.Fatalf("P20.1: Settle of %v: %v; want %v", s, l, want)
			}
			for _, w := range l {
				for by := api.Left; by <= api.Right; by++ {
					settles++
					if e := r.Allows(d.c, s, by, w.Op); e != api.OK {
						t.Errorf("P20.4: what Settle wants, %v, isn't allowed by %d: %d", w, by, e)
					}
				}
			}
			op := pact.Op{Kind: []int{0, 1, 2, 2, 2, 3, 3, 3, 4, 4, 4, 5, 6, -1}[d.Intn(14)], Amount: 3, Id: uint64(d.Intn(20)), Cond: d.cond(3)}
			if len(s.Conds) > 0 && d.Intn(4) > 0 {
				op.Id = s.Conds[d.Intn(len(s.Conds))].Id
			}
			by := api.Side(d.Intn(2))
			e := r.Allows(d.c, s, by, op)
			if want := d.allows(r, s, by, op); e != want {
				t.Fatalf("P20.1: Allows %v by %d of %v: %d; want %d", op, by, s, e, want)
			}
			if met[op.Kind] == nil {
				met[op.Kind] = map[api.Errno]int{}
			}
			met[op.Kind][e]++
		}
	}
	for kind, l := range map[int][]api.Errno{0: {api.OK}, 1: {api.OK}, 2: {api.OK, api.ErrLate, api.ErrEarly}, 3: {api.OK, api.ErrNone, api.ErrEarly}, 4: {api.OK, api.ErrNone, api.ErrEarly}, 5: {api.OK}, 6: {api.OK}} {
		for _, e := range l {
			if met[kind][e] < 20 {
				t.Errorf("the error %d of the kind %d was met %d times", e, kind, met[kind][e])
			}
		}
	}
	if settles < 1000 {
		t.Errorf("Settle wanted %d", settles)
	}
}

// P20.2, P20.4: Forward by chance, against the book; and whoever forwards has its Fee.
func TestForwardByChance(t *testing.T) {
	met := map[api.Errno]int{}
	for seed := range int64(300) {
		d := newDice(t, seed)
		for range 40 {
			r, p := d.rules(), d.cond(7)
			if d.Intn(10) == 0 {
				r.Fee = money.Fee{Base: d.pick(top, top-9, 0), Rate: d.pick(top, 1<<40, 1000001)}
			}
			var trail []memo.Hop
			for range d.Intn(5) {
				trail = append(trail, memo.Hop{Channel: uint32(d.Intn(4)), Amount: d.pick(0, 1, 10, 10, 99, top), Id: d.Uint64()})
			}
			if len(trail) > 0 && d.Intn(2) == 0 {
				over, _ := r.Fee.Over(trail[0].Amount)
				p.Amount = over + d.pick(0, 0, 1, top)
			}
			who := d.Intn(5)
			id, w, e := r.Forward(d.c, who, p, trail)
			wantId, want, wantError := d.forward(r, who, p, trail)
			if id != wantId || !sameWish(w, want) || e != wantError {
				t.Fatalf("P20.2: Forward of %v over %v: %d, %v, %d; want %d, %v, %d", p, trail, id, w, e, wantId, want, wantError)
			}
			met[e]++
			if e != api.OK {
				continue
			}
			fee, e := r.Fee.Of(w.Op.Cond.Amount)
			if e != api.OK || p.Amount < w.Op.Cond.Amount || p.Amount-w.Op.Cond.Amount < fee || w.Op.Cond.Hash != p.Hash || w.Op.Cond.Expiry != p.Expiry {
				t.Fatalf("P20.4: Forward of %v: %v; the fee %d, %d", p, w, fee, e)
			}
		}
	}
	for _, e := range []api.Errno{api.OK, api.ErrNone, api.ErrRoute, api.ErrOver, api.ErrFee, api.ErrLate} {
		if met[e] < 20 {
			t.Errorf("the error %d was met %d times: %v", e, met[e], met)
		}
	}
}

// P20.2: Claims by chance, against the book.
func TestClaimsByChance(t *testing.T) {
	met := map[int]int{}
	for seed := range int64(200) {
		d := newDice(t, seed)
		for range 40 {
			s, r := d.state(), d.rules()
			known, by := map[uint64]bool{}, map[api.Hash]api.Secret{}
			for n := range uint64(secrets) {
				if d.Intn(4) > 0 {
					known[n], by[hashOf(n)] = true, secretOf(n)
				}
			}
			side := api.Side(d.Intn(2))
			got, want := r.Claims(d.c, s, side, by), d.claims(r, s, side, known)
			if !slices.Equal(got, want) {
				t.Fatalf("P20.2: Claims of %v for %d: %v; want %v", s, side, got, want)
			}
			met[len(got)]++
		}
	}
	for n := range 4 {
		if met[n] < 20 {
			t.Errorf("%d claims were met %d times", n, met[n])
		}
	}
}

// P20.3, P20.4: wishes added by chance, against the book, saved and loaded.
func TestWishesByChance(t *testing.T) {
	d := &dice{Rand: rand.New(rand.NewSource(20)), c: fresh(t)}
	taken := 0
	for range 200 {
		var l, want []clerk.Wish
		for range d.Intn(60) {
			op := pact.Op{Kind: d.Intn(7), Amount: d.pick(0, 1), Id: uint64(d.Intn(5)), Cond: api.Cond{By: api.Side(d.Intn(2))}}
			w := clerk.Wish{Op: op, Trail: hops(d.Intn(8))}
			isNew := !slices.ContainsFunc(want, func(o clerk.Wish) bool {
				isOut := func(op pact.Op) bool { return op.Kind == 3 || op.Kind == 4 }
				return isOut(o.Op) && isOut(op) && o.Op.Id == op.Id || o.Op == op
			})
			if isNew {
				want = append(want, w)
			} else {
				taken++
			}
			l = clerk.Add(l, w)
			if !sameWishes(l, want) {
				t.Fatalf("P20.3: Add of %v: %v; want %v", w, l, want)
			}
		}
		wantSaved(t, "by chance", l)
	}
	if taken < 100 {
		t.Errorf("%d wishes were the same as others", taken)
	}
}
