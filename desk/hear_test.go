package desk_test

import (
	"math"
	"testing"

	"tollhouse/api"
	"tollhouse/deed"
	"tollhouse/desk"
	"tollhouse/lamp"
	"tollhouse/memo"
	"tollhouse/pact"
	"tollhouse/ring"
)

// refuseHear: Hear has that error, and changes nothing.
func refuseHear(t *testing.T, name string, d *desk.Desk, put [2]uint64, m memo.Memo, want api.Errno) {
	t.Helper()
	before := imageOf(d)
	if x, news, e := d.Hear(put, m); e != want || news || !sameMemo(x, memo.Memo{}) {
		t.Errorf("P19.2: Hear, %s: %s, %t, %d; want %d", name, brief(x), news, e, want)
	}
	if !imageOf(d).same(before) {
		t.Errorf("R2: Hear, %s: the desk isn't as it was", name)
	}
}

// refuseAgreed: Agreed has that error, and changes nothing.
func refuseAgreed(t *testing.T, name string, d *desk.Desk, m memo.Memo, want api.Errno) {
	t.Helper()
	before := imageOf(d)
	if e := d.Agreed(m); e != want {
		t.Errorf("P19.2: Agreed, %s: %d; want %d", name, e, want)
	}
	if !imageOf(d).same(before) {
		t.Errorf("R2: Agreed, %s: the desk isn't as it was", name)
	}
}

// stamp is a side's signature of a state, whatever it signed before.
func stamp(t *testing.T, by api.Side, tall int, s api.State) ring.Sig {
	t.Helper()
	r := stamps[by][tall]
	if r == nil {
		r = ringOf(t, by, tall)
		for key := range uint32(1) << tall {
			r.Spend(key)
		}
		stamps[by][tall] = r
	}
	sig, e := deed.Again(r, s)
	if e != api.OK {
		t.Fatalf("the round %d: %d", s.Round, e)
	}
	return sig
}

// stamps are rings all keys of which are taken, made once a side and a height.
var stamps [2][9]*ring.Ring

// forged is an Offer behind a state, signed by a side whatever it is: also what may not be, of the state as it was but for the round.
func forged(t *testing.T, by api.Side, tall int, s api.State, put [2]uint64, op pact.Op, trail ...memo.Hop) memo.Memo {
	t.Helper()
	next, e := pact.Next(s, put, by, op)
	if e != api.OK {
		next = pact.Twin(s)
		next.Round++
	}
	return memo.Memo{Kind: memo.Offer, Channel: s.Channel, Round: next.Round, Op: op, Trail: trail, Sig: stamp(t, by, tall, next)}
}

// P19.2: what is offered is signed, and with both signatures the best deed.
func TestHear(t *testing.T) {
	for by := api.Left; by <= api.Right; by++ {
		for kind := pact.Pass; kind <= pact.Take; kind++ {
			p := pairAt(t, 3, uint64(by))
			p.do(t, plenty, lock(7, by, 4))
			p.do(t, plenty, lock(8, 1-by, 5))
			op := full(kind, by)
			if kind == pact.Lock {
				op.Cond.Id = 9
			}
			m, _ := p.at[by].Offer(plenty, op, hops(kind)...)
			want, _ := pact.Next(p.at[by].Best().State, plenty, by, op)
			x, news, e := p.at[1-by].Hear(plenty, m)
			agree := memo.Memo{Kind: memo.Agree, Channel: channel, Round: uint64(by) + 3, Sig: stamp(t, 1-by, 3, want)}
			if e != api.OK || !news || !sameMemo(x, agree) || !x.Right() {
				t.Errorf("P19.2: Hear of the kind %d: %s, %t, %d; want %s", kind, brief(x), news, e, brief(agree))
			}
			d := p.at[1-by].Best()
			if !pact.Same(d.State, want) || !sameSig(d.Sigs[by], m.Sig) || !sameSig(d.Sigs[1-by], x.Sig) || !rootsOf(t, 3).Whole(d, channel) {
				t.Errorf("P19.2: the best deed behind Hear of the kind %d: %v, want %v", kind, d.State, want)
			}
			if _, ok := p.at[1-by].Open(); ok || !p.at[1-by].Turn() {
				t.Errorf("P19.2: behind Hear of the kind %d an offer is open, or it isn't its turn", kind)
			}
			if e := p.at[by].Agreed(x); e != api.OK || !sameDeed(p.at[by].Best(), d) {
				t.Errorf("P19.2: Agreed of the kind %d: %d, %v", kind, e, p.at[by].Best().State)
			}
			if open, ok := p.at[by].Open(); ok || !sameMemo(open, memo.Memo{}) || p.at[by].Turn() {
				t.Errorf("P19.2: behind Agreed of the kind %d: %s, %t", kind, brief(open), ok)
			}
		}
	}
}

// P19.2: what isn't an Offer, is of another channel, or may not be.
func TestHearForm(t *testing.T) {
	p := pairAt(t, 3, 1)
	d := p.at[0]
	good := forged(t, 1, 3, d.Best().State, plenty, pay(4), hops(2)...)
	for name, turn := range map[string]func(*memo.Memo){
		"nothing":              func(m *memo.Memo) { *m = memo.Memo{} },
		"an Ask":               func(m *memo.Memo) { *m = p.at[1].Ask() },
		"an Ask's kind":        func(m *memo.Memo) { m.Kind = memo.Ask },
		"an Agree":             func(m *memo.Memo) { *m = memo.Memo{Kind: memo.Agree, Channel: channel, Round: 2, Sig: m.Sig} },
		"an Agree's kind":      func(m *memo.Memo) { m.Kind = memo.Agree },
		"no such kind":         func(m *memo.Memo) { m.Kind = 3 },
		"a kind below 0":       func(m *memo.Memo) { m.Kind = -1 },
		"a kind beyond a byte": func(m *memo.Memo) { m.Kind = 257 },
		"another channel":      func(m *memo.Memo) { m.Channel++ },
		"the channel 0":        func(m *memo.Memo) { m.Channel = 0 },
		"a channel's half":     func(m *memo.Memo) { m.Channel &= 0xffff },
		"8 hops":               func(m *memo.Memo) { m.Trail = hops(8) },
		"a Way of 9":           func(m *memo.Memo) { m.Sig.Way = make([]api.Digest, 9) },
		"a wish of no kind":    func(m *memo.Memo) { m.Op = pact.Op{Kind: 6} },
		"a wish below 0":       func(m *memo.Memo) { m.Op = pact.Op{Kind: -1} },
		"a Lock by no side":    func(m *memo.Memo) { m.Op = lock(1, 2, 3) },
		"a Lock below 0":       func(m *memo.Memo) { m.Op = lock(1, -1, 3) },
	} {
		m := good.Twin()
		turn(&m)
		refuseHear(t, name, d, plenty, m, api.ErrForm)
		// Ahead of whose turn it is, of which Round, and of what was agreed to.
		for _, round := range []uint64{0, 1, 3, 4, top} {
			m.Round = round
			refuseHear(t, name+", and another round", d, plenty, m, api.ErrForm)
		}
		m.Round = 1
		refuseHear(t, name+", agreed to already", p.at[1], plenty, m, api.ErrForm)
	}
	if _, news, e := d.Hear(plenty, good); e != api.OK || !news {
		t.Errorf("P19.2: Hear behind refusals: %t, %d", news, e)
	}
}

// fieldsOf sets each field of a wish, one at a time.
var fieldsOf = map[string]func(*pact.Op){
	"Amount":          func(op *pact.Op) { op.Amount = 1 },
	"Amount, highest": func(op *pact.Op) { op.Amount = 1 << 63 },
	"Id":              func(op *pact.Op) { op.Id = 1 },
	"Id, highest":     func(op *pact.Op) { op.Id = 1 << 63 },
	"Cond.Id":         func(op *pact.Op) { op.Cond.Id = 1 },
	"Cond.By":         func(op *pact.Op) { op.Cond.By = 1 },
	"Cond.Amount":     func(op *pact.Op) { op.Cond.Amount = 1 },
	"Cond.Hash":       func(op *pact.Op) { op.Cond.Hash[31] = 1 },
	"Cond.Expiry":     func(op *pact.Op) { op.Cond.Expiry = 1 },
}

// P19.2: a wish with each field that its kind hasn't, though it would be right else.
func TestHearBare(t *testing.T) {
	for kind, has := range map[int]string{pact.Pass: "", pact.Pay: "Amount", pact.Lock: "Cond", pact.Done: "Id", pact.Undo: "Id", pact.Take: "Amount"} {
		p := pairAt(t, 3, 1)
		p.do(t, plenty, lock(7, 1, 3))
		p.do(t, plenty, pact.Op{})
		d := p.at[0]
		bare := desk.Bare(full(kind, 1))
		if kind == pact.Lock {
			bare.Cond.Id = 8
		}
		for name, set := range fieldsOf {
			if len(has) > 0 && len(name) >= len(has) && name[:len(has)] == has {
				continue
			}
			op := bare
			set(&op)
			m := forged(t, 1, 3, d.Best().State, plenty, op)
			refuseHear(t, "a wish with "+name, d, plenty, m, api.ErrForm)
			for _, round := range []uint64{3, 2, 9} {
				m.Round = round
				refuseHear(t, "a wish with "+name+", of another round", d, plenty, m, api.ErrForm)
			}
		}
		if _, news, e := d.Hear(plenty, forged(t, 1, 3, d.Best().State, plenty, bare)); e != api.OK || !news {
			t.Errorf("P19.2: a bare wish of the kind %d: %t, %d", kind, news, e)
		}
	}
}

// P19.2: Rounds of the own turn, ahead of which Round it is.
func TestHearTurn(t *testing.T) {
	for agreed := range uint64(5) {
		p := pairAt(t, 3, agreed)
		for side, d := range p.at {
			for _, round := range []uint64{0, 1, 2, 3, 4, 5, 6, 7, 8, 200, 201, 255, 256, 1 << 32, 1<<32 + 1, top - 1, top} {
				m := memo.Memo{Kind: memo.Offer, Channel: channel, Round: round, Op: pay(0)}
				switch {
				case round%2 != uint64(side):
					refuseHear(t, "its own turn", d, plenty, m, api.ErrTurn)
				case round != agreed && round != agreed+1:
					refuseHear(t, "another round", d, plenty, m, api.ErrRound)
				case round == 0:
					refuseHear(t, "the round 0", d, plenty, m, api.ErrRound)
				}
			}
		}
	}
}

// P19.2: of Rounds one behind the best deed's and two beyond it; what the wish is doesn't matter there.
func TestHearRound(t *testing.T) {
	p := pairAt(t, 3, 4)
	for _, op := range []pact.Op{{}, pay(1), pay(5000), {Kind: pact.Done, Id: 9}} {
		for _, c := range []struct {
			side  api.Side
			round uint64
			want  api.Errno
		}{{0, 2, api.ErrRound}, {0, 6, api.ErrRound}, {1, 3, api.ErrRound}, {1, 7, api.ErrRound}, {0, 0, api.ErrRound}, {1, 1, api.ErrRound}, {0, 3, api.ErrTurn}, {0, 5, api.ErrTurn}, {1, 4, api.ErrTurn}, {1, 6, api.ErrTurn}} {
			s := p.at[0].Best().State
			s.Round = c.round - 1
			if c.round == 0 {
				s.Round = 6
			}
			m := forged(t, 1-c.side, 3, s, plenty, op)
			m.Round = c.round
			refuseHear(t, "another round", p.at[c.side], plenty, m, c.want)
		}
	}
}

// P19.2: an offer heard twice: it is agreed to again, and isn't news; whatever else is in the memo by then.
func TestHearAgain(t *testing.T) {
	for by := api.Left; by <= api.Right; by++ {
		p := pairAt(t, 3, uint64(by))
		m, _ := p.at[by].Offer(plenty, pay(4), hops(2)...)
		x, _, _ := p.at[1-by].Hear(plenty, m)
		again := func(name string, put [2]uint64, m memo.Memo) {
			t.Helper()
			before := imageOf(p.at[1-by])
			y, news, e := p.at[1-by].Hear(put, m)
			if e != api.OK || news || !sameMemo(y, x) {
				t.Errorf("P19.2: heard again, %s: %s, %t, %d; want %s", name, brief(y), news, e, brief(x))
			}
			if !imageOf(p.at[1-by]).same(before) {
				t.Errorf("P19.2: heard again, %s: the desk isn't as it was", name)
			}
		}
		all := func() {
			t.Helper()
			again("as it was", plenty, m)
			again("nothing put in", [2]uint64{}, m)
			again("too much put in", [2]uint64{top, top}, m)
			again("not signed", plenty, memo.Memo{Kind: memo.Offer, Channel: channel, Round: m.Round, Op: m.Op})
			again("another wish", plenty, memo.Memo{Kind: memo.Offer, Channel: channel, Round: m.Round, Op: pay(5), Sig: m.Sig})
			again("a wish that can't be had", plenty, memo.Memo{Kind: memo.Offer, Channel: channel, Round: m.Round, Op: pay(0)})
			again("a Lock by the own side", plenty, memo.Memo{Kind: memo.Offer, Channel: channel, Round: m.Round, Op: lock(1, 1-by, 1)})
			refuseHear(t, "heard again, not bare", p.at[1-by], plenty, memo.Memo{Kind: memo.Offer, Channel: channel, Round: m.Round, Op: pact.Op{Id: 1}}, api.ErrForm)
		}
		all()
		// The answer may have been lost, and the own next offer be open by then.
		if _, e := p.at[1-by].Offer(plenty, pay(1)); e != api.OK {
			t.Fatalf("P19.2: Offer: %d", e)
		}
		all()
		if e := p.at[by].Agreed(x); e != api.OK {
			t.Errorf("P19.2: Agreed: %d", e)
		}
	}
}

// P19.2: a Round two behind the one that was agreed to last isn't agreed to again.
func TestHearLongAgo(t *testing.T) {
	p := newPair(t, 3)
	first, _ := p.at[0].Offer(plenty, pay(4))
	x, _, _ := p.at[1].Hear(plenty, first)
	p.at[0].Agreed(x)
	p.do(t, plenty, pact.Op{})
	refuseHear(t, "one behind", p.at[1], plenty, first, api.ErrRound)
	p.do(t, plenty, pact.Op{})
	refuseHear(t, "two behind", p.at[1], plenty, first, api.ErrRound)
}

// P19.2: offers of what layer 12 refuses the other side, ahead of the signature.
func TestHearRefused(t *testing.T) {
	for by := api.Left; by <= api.Right; by++ {
		put := [2]uint64{10, 10}
		p := pairAt(t, 4, uint64(by))
		for id := range uint64(8) {
			p.do(t, put, lock(id, api.Side(id%2)^by, 1))
		}
		d := p.at[1-by]
		for _, c := range []struct {
			name string
			put  [2]uint64
			op   pact.Op
			want api.Errno
		}{
			{"nothing paid", put, pay(0), api.ErrArg},
			{"too much paid", put, pay(7), api.ErrRoom},
			{"nothing taken", put, pact.Op{Kind: pact.Take}, api.ErrArg},
			{"too much taken", put, pact.Op{Kind: pact.Take, Amount: top}, api.ErrRoom},
			{"a Lock by the own side", put, lock(9, 1-by, 1), api.ErrArg},
			{"what is pending", put, lock(3, by, 1), api.ErrTwice},
			{"one too many", put, lock(9, by, 1), api.ErrFull},
			{"done, and not pending", put, pact.Op{Kind: pact.Done, Id: 8}, api.ErrNone},
			{"undone, and not pending", put, pact.Op{Kind: pact.Undo, Id: 9}, api.ErrNone},
			{"too little was put in", [2]uint64{3, 10}, pact.Op{}, api.ErrUnder},
			{"a sum above the last", [2]uint64{top - 10*uint64(by), top - 10*uint64(1-by)}, pay(11), api.ErrOver},
		} {
			m := forged(t, by, 4, d.Best().State, c.put, c.op)
			refuseHear(t, c.name, d, c.put, m, c.want)
			m.Sig = ring.Sig{}
			refuseHear(t, c.name+", not signed", d, c.put, m, c.want)
		}
		if _, news, e := d.Hear(put, forged(t, by, 4, d.Best().State, put, pay(6))); e != api.OK || !news {
			t.Errorf("P19.2: Hear behind refusals: %t, %d", news, e)
		}
	}
}

// wrongSigs are signatures that aren't right for a state, near to one that is.
func wrongSigs(t *testing.T, by api.Side, tall int, s api.State) map[string]ring.Sig {
	t.Helper()
	right := stamp(t, by, tall, s)
	l := map[string]ring.Sig{"none": {}, "the other side's": stamp(t, 1-by, tall, s)}
	turned := func(name string, turn func(*ring.Sig)) {
		x := right
		x.Way = append([]api.Digest{}, right.Way...)
		turn(&x)
		l[name] = x
	}
	turned("another key's number", func(x *ring.Sig) { x.Key++ })
	turned("no Way", func(x *ring.Sig) { x.Way = nil })
	turned("a Way of one less", func(x *ring.Sig) { x.Way = x.Way[1:] })
	turned("a Way of one more", func(x *ring.Sig) { x.Way = append(x.Way, api.Digest{}) })
	turned("a Way of 8", func(x *ring.Sig) { x.Way = append(x.Way, make([]api.Digest, 8-len(x.Way))...) })
	turned("a Way, its first sum", func(x *ring.Sig) { x.Way[0][0] ^= 128 })
	turned("a Way, its last sum", func(x *ring.Sig) { x.Way[len(x.Way)-1][31] ^= 1 })
	turned("a piece shown", func(x *ring.Sig) { x.Open[0][0] ^= 1 })
	turned("a piece not shown", func(x *ring.Sig) { x.Other[lamp.Bits-1][15] ^= 1 })
	for name, turn := range map[string]func(*api.State){
		"of more moved":        func(s *api.State) { s.Moved[by]++ },
		"of more taken":        func(s *api.State) { s.Taken[1-by]++ },
		"of another channel":   func(s *api.State) { s.Channel++ },
		"of a payment more":    func(s *api.State) { s.Conds = append(s.Conds, cond(77, by, 1)) },
		"of the round behind":  func(s *api.State) { s.Round++ },
		"of the round ahead":   func(s *api.State) { s.Round-- },
		"of nothing in all":    func(s *api.State) { *s = api.State{Round: s.Round} },
		"of the sides swapped": func(s *api.State) { s.Moved[0], s.Moved[1] = s.Moved[1], s.Moved[0] },
	} {
		x := pact.Twin(s)
		turn(&x)
		l["one "+name] = stamp(t, by, tall, x)
	}
	x := pact.Twin(s)
	x.Round--
	other := stamp(t, by, tall, x)
	other.Key = uint32(s.Round)
	l["another key's as if its own"] = other
	return l
}

// P19.2: offers whose signature isn't right for what comes.
func TestHearSign(t *testing.T) {
	for by := api.Left; by <= api.Right; by++ {
		p := pairAt(t, 3, uint64(by))
		p.do(t, plenty, pay(9))
		d := p.at[by]
		m := forged(t, 1-by, 3, d.Best().State, plenty, pay(4), hops(3)...)
		next, _ := pact.Next(d.Best().State, plenty, 1-by, pay(4))
		for name, sig := range wrongSigs(t, 1-by, 3, next) {
			m := m.Twin()
			m.Sig = sig
			refuseHear(t, name, d, plenty, m, api.ErrSign)
		}
		for _, op := range []pact.Op{{}, pay(5), {Kind: pact.Take, Amount: 4}, lock(1, 1-by, 4)} {
			m := m.Twin()
			m.Op = op
			refuseHear(t, "another wish", d, plenty, m, api.ErrSign)
		}
		// The Trail isn't signed, and no key was taken by refusals.
		m.Trail = hops(5)
		if x, news, e := d.Hear(plenty, m); e != api.OK || !news || !rootsOf(t, 3).Right(by, next, x.Sig) {
			t.Errorf("P19.2: Hear behind refusals: %t, %d", news, e)
		}
	}
}

// P19.2: what isn't an Agree, is of another channel, or may not be; ahead of whether an offer is open.
func TestAgreedForm(t *testing.T) {
	p := pairAt(t, 3, 1)
	m, _ := p.at[1].Offer(plenty, pay(4), hops(2)...)
	x, _, _ := p.at[0].Hear(plenty, m)
	for name, turn := range map[string]func(*memo.Memo){
		"nothing":              func(x *memo.Memo) { *x = memo.Memo{} },
		"an Ask":               func(x *memo.Memo) { *x = p.at[0].Ask() },
		"an Ask's kind":        func(x *memo.Memo) { x.Kind = memo.Ask },
		"an Offer":             func(x *memo.Memo) { *x = m },
		"an Offer's kind":      func(x *memo.Memo) { x.Kind = memo.Offer },
		"no such kind":         func(x *memo.Memo) { x.Kind = 3 },
		"a kind below 0":       func(x *memo.Memo) { x.Kind = math.MinInt },
		"a kind beyond a byte": func(x *memo.Memo) { x.Kind = 258 },
		"another channel":      func(x *memo.Memo) { x.Channel-- },
		"the channel 0":        func(x *memo.Memo) { x.Channel = 0 },
		"a hop":                func(x *memo.Memo) { x.Trail = hops(1) },
		"a wish":               func(x *memo.Memo) { x.Op = pay(4) },
		"a wish's amount":      func(x *memo.Memo) { x.Op.Amount = 1 },
		"a Way of 9":           func(x *memo.Memo) { x.Sig.Way = make([]api.Digest, 9) },
	} {
		y := x.Twin()
		turn(&y)
		refuseAgreed(t, name, p.at[1], y, api.ErrForm)
		refuseAgreed(t, name+", no offer is open", p.at[0], y, api.ErrForm)
		y.Round = 9
		if name != "nothing" && name != "an Ask" {
			refuseAgreed(t, name+", another round", p.at[1], y, api.ErrForm)
		}
	}
	if e := p.at[1].Agreed(x); e != api.OK {
		t.Errorf("P19.2: Agreed behind refusals: %d", e)
	}
}

// P19.2: an Agree with no offer open, doubled, of another Round.
func TestAgreedNoneOrRound(t *testing.T) {
	p := newPair(t, 3)
	m, _ := p.at[0].Offer(plenty, pay(4))
	x, _, _ := p.at[1].Hear(plenty, m)
	for _, round := range []uint64{0, 1, 2, 9, top} {
		y := x.Twin()
		y.Round = round
		refuseAgreed(t, "no offer was open", deskOf(t, 0, 3), y, api.ErrNone)
		refuseAgreed(t, "the other side's offer", p.at[1], y, api.ErrNone)
		if round != 1 {
			refuseAgreed(t, "another round", p.at[0], y, api.ErrRound)
			y.Sig = ring.Sig{}
			refuseAgreed(t, "another round, not signed", p.at[0], y, api.ErrRound)
		}
	}
	if e := p.at[0].Agreed(x); e != api.OK {
		t.Errorf("P19.2: Agreed: %d", e)
	}
	refuseAgreed(t, "doubled", p.at[0], x, api.ErrNone)
	p.do(t, plenty, pact.Op{})
	refuseAgreed(t, "long ago", p.at[0], x, api.ErrNone)
	n, _ := p.at[0].Offer(plenty, pay(4))
	refuseAgreed(t, "two rounds behind", p.at[0], x, api.ErrRound)
	y, _, _ := p.at[1].Hear(plenty, n)
	if e := p.at[0].Agreed(y); e != api.OK || p.at[0].Best().Round != 3 {
		t.Errorf("P19.2: Agreed: %d", e)
	}
}

// P19.2: an Agree whose signature isn't right for the offer's state.
func TestAgreedSign(t *testing.T) {
	for by := api.Left; by <= api.Right; by++ {
		p := pairAt(t, 3, uint64(by)+2)
		state := p.at[by].Best().State
		m, _ := p.at[by].Offer(plenty, pay(4))
		next, _ := pact.Next(state, plenty, by, pay(4))
		for name, sig := range wrongSigs(t, 1-by, 3, next) {
			refuseAgreed(t, name, p.at[by], memo.Memo{Kind: memo.Agree, Channel: channel, Round: next.Round, Sig: sig}, api.ErrSign)
		}
		refuseAgreed(t, "its own", p.at[by], memo.Memo{Kind: memo.Agree, Channel: channel, Round: next.Round, Sig: m.Sig}, api.ErrSign)
		good := memo.Memo{Kind: memo.Agree, Channel: channel, Round: next.Round, Sig: stamp(t, 1-by, 3, next)}
		if e := p.at[by].Agreed(good); e != api.OK || !sameSig(p.at[by].Best().Sigs[1-by], good.Sig) || !sameSig(p.at[by].Best().Sigs[by], m.Sig) {
			t.Errorf("P19.2: Agreed behind refusals: %d", e)
		}
	}
}

// P19.2: what isn't for a desk changes nothing there, also of its own.
func TestOwnMemos(t *testing.T) {
	p := newPair(t, 3)
	m, _ := p.at[0].Offer(plenty, pay(4))
	refuseHear(t, "its own offer", p.at[0], plenty, m, api.ErrTurn)
	x, _, _ := p.at[1].Hear(plenty, m)
	refuseAgreed(t, "its own answer", p.at[1], x, api.ErrNone)
	refuseHear(t, "an answer", p.at[0], plenty, x, api.ErrForm)
}
