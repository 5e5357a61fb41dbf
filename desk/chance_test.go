package desk_test

import (
	"math/rand"
	"slices"
	"testing"

	"tollhouse/api"
	"tollhouse/deed"
	"tollhouse/desk"
	"tollhouse/memo"
	"tollhouse/pact"
	"tollhouse/ring"
)

// dice are what tests take by chance, the same each time.
type dice struct{ *rand.Rand }

func newDice(seed int64) dice { return dice{rand.New(rand.NewSource(seed))} }

// once says whether something comes that comes once in so many times.
func (d dice) once(in int) bool { return d.Intn(in) == 0 }

func (d dice) put() [2]uint64 {
	if d.once(6) {
		return [][2]uint64{{}, {1, 2}, {20, 0}, {top, 20}, {20, top}, {top, top}}[d.Intn(6)]
	}
	return [2]uint64{20, 20}
}

// op is a wish of a side, most often a bare one that may be.
func (d dice) op(by api.Side) pact.Op {
	whose, kind := by, []int{0, 1, 2, 2, 2, 3, 4, 5}[d.Intn(8)]
	if d.once(12) {
		whose = api.Side(d.Intn(4) - 1)
	}
	if d.once(20) {
		kind = d.Intn(10) - 2
	}
	amount := []uint64{0, 1, 1, 2, 3, 5, 30, top}[d.Intn(8)]
	id := uint64(d.Intn(4))
	op := pact.Op{Kind: kind, Amount: amount, Id: id, Cond: cond(id, whose, amount)}
	if d.once(4) {
		return op
	}
	return bare(op)
}

func (d dice) trail() []memo.Hop {
	if d.once(10) {
		return hops(8 + d.Intn(2))
	}
	return hops(d.Intn(8))
}

// bare is a wish made bare, by the chapter's words.
func bare(op pact.Op) pact.Op {
	has := []string{"", "Amount", "Cond", "Id", "Id", "Amount"}
	if op.Kind < 0 || op.Kind >= len(has) || has[op.Kind] != "Amount" {
		op.Amount = 0
	}
	if op.Kind < 0 || op.Kind >= len(has) || has[op.Kind] != "Cond" {
		op.Cond = api.Cond{}
	}
	if op.Kind < 0 || op.Kind >= len(has) || has[op.Kind] != "Id" {
		op.Id = 0
	}
	return op
}

// book is what the chapter's words make of a desk.
type book struct {
	t     *testing.T
	side  api.Side
	tall  int
	best  deed.Deed
	open  memo.Memo
	state api.State
}

func (b *book) isOpen() bool { return b.open.Kind == memo.Offer }

func (b *book) offer(put [2]uint64, op pact.Op, trail []memo.Hop) (memo.Memo, api.Errno) {
	switch {
	case b.isOpen():
		return memo.Memo{}, api.ErrState
	case len(trail) > 7:
		return memo.Memo{}, api.ErrLimit
	case op.Kind == pact.Lock && op.Cond.By != b.side:
		return memo.Memo{}, api.ErrArg
	}
	next, e := pact.Next(b.best.State, put, b.side, bare(op))
	if e != api.OK {
		return memo.Memo{}, e
	}
	if next.Round >= 1<<b.tall {
		return memo.Memo{}, api.ErrArg
	}
	b.state = next
	b.open = memo.Memo{Kind: memo.Offer, Channel: channel, Round: next.Round, Op: bare(op), Trail: trail, Sig: stamp(b.t, b.side, b.tall, next)}
	return b.open, api.OK
}

func (b *book) both(s api.State, own, other ring.Sig) deed.Deed {
	if b.side == api.Left {
		return deed.Deed{State: s, Sigs: [2]ring.Sig{own, other}}
	}
	return deed.Deed{State: s, Sigs: [2]ring.Sig{other, own}}
}

func (b *book) hear(put [2]uint64, m memo.Memo) (memo.Memo, bool, api.Errno) {
	if m.Kind != memo.Offer || m.Channel != channel || !m.Right() || m.Op != bare(m.Op) {
		return memo.Memo{}, false, api.ErrForm
	}
	if (m.Round%2 == 1) == (b.side == api.Left) {
		return memo.Memo{}, false, api.ErrTurn
	}
	isAgain := m.Round > 0 && m.Round == b.best.Round
	if !isAgain {
		if m.Round == 0 || m.Round-1 != b.best.Round {
			return memo.Memo{}, false, api.ErrRound
		}
		next, e := pact.Next(b.best.State, put, 1-b.side, m.Op)
		if e != api.OK {
			return memo.Memo{}, false, e
		}
		if !rootsOf(b.t, b.tall).Right(1-b.side, next, m.Sig) {
			return memo.Memo{}, false, api.ErrSign
		}
		b.best = b.both(next, stamp(b.t, b.side, b.tall, next), m.Sig)
	}
	return memo.Memo{Kind: memo.Agree, Channel: channel, Round: m.Round, Sig: stamp(b.t, b.side, b.tall, b.best.State)}, !isAgain, api.OK
}

func (b *book) agreed(m memo.Memo) api.Errno {
	switch {
	case m.Kind != memo.Agree || m.Channel != channel || !m.Right():
		return api.ErrForm
	case !b.isOpen():
		return api.ErrNone
	case m.Round != b.open.Round:
		return api.ErrRound
	case !rootsOf(b.t, b.tall).Right(1-b.side, b.state, m.Sig):
		return api.ErrSign
	}
	b.best, b.open = b.both(b.state, b.open.Sig, m.Sig), memo.Memo{}
	return api.OK
}

func (b *book) image() image {
	saved := withDeed(b.best)
	if b.isOpen() {
		saved = withOffer(b.best, b.state, b.open.Op, b.open.Trail...)
	}
	isTurn := !b.isOpen() && (b.best.Round%2 == 0) == (b.side == api.Left)
	return image{channel, b.side, b.best, isTurn, b.open, b.isOpen(), memo.Memo{Channel: channel}, saved}
}

// turned is a memo with something else in it, most often.
func (d dice) turned(m memo.Memo) memo.Memo {
	m = m.Twin()
	switch d.Intn(14) {
	case 0:
		m.Kind = d.Intn(5) - 1
	case 1:
		m.Channel ^= 1 << d.Intn(32)
	case 2, 3:
		m.Round += uint64(d.Intn(5)) - 2
	case 4:
		m.Op = d.op(api.Side(d.Intn(2)))
	case 5:
		m.Trail = d.trail()
	case 6:
		m.Sig.Key ^= 1 << d.Intn(5)
	case 7:
		m.Sig.Open[d.Intn(32)][d.Intn(16)]++
	case 8:
		m.Sig.Way = make([]api.Digest, d.Intn(10))
	case 9:
		m.Sig = ring.Sig{}
	}
	return m
}

// heard is what the other side of a book's may say to it.
func (d dice) heard(b *book, put [2]uint64) memo.Memo {
	if d.once(10) {
		return memo.Memo{Channel: channel}
	}
	other := 1 - b.side
	op := d.op(other)
	if next, e := pact.Next(b.best.State, put, other, op); e == api.OK && next.Round < 1<<b.tall && !d.once(4) {
		return memo.Memo{Kind: memo.Offer, Channel: channel, Round: next.Round, Op: op, Trail: hops(d.Intn(8)), Sig: stamp(b.t, other, b.tall, next)}
	}
	return memo.Memo{Kind: memo.Offer, Channel: channel, Round: b.best.Round + uint64(d.Intn(3)), Op: op, Trail: d.trail()}
}

// answered is what the other side may answer.
func (d dice) answered(b *book) memo.Memo {
	if b.isOpen() {
		return memo.Memo{Kind: memo.Agree, Channel: channel, Round: b.open.Round, Sig: stamp(b.t, 1-b.side, b.tall, b.state)}
	}
	return memo.Memo{Kind: memo.Agree, Channel: channel, Round: b.best.Round, Sig: b.best.Sigs[1-b.side]}
}

// call is one call by chance, of each desk and of the book; they have to answer the same.
func (d dice) call(t *testing.T, b *book, desks ...*desk.Desk) (string, api.Errno) {
	t.Helper()
	put := d.put()
	switch d.Intn(3) {
	case 0:
		op, trail := d.op(b.side), d.trail()
		want, e := b.offer(put, op, trail)
		for _, x := range desks {
			if got, f := x.Offer(put, op, trail...); f != e || !sameMemo(got, want) {
				t.Fatalf("P19.2: Offer of %v, %v: %s, %d; want %s, %d", put, op, brief(got), f, brief(want), e)
			}
		}
		return "Offer", e
	case 1:
		m := d.turned(d.heard(b, put))
		want, isNews, e := b.hear(put, m)
		for _, x := range desks {
			if got, news, f := x.Hear(put, m); f != e || news != isNews || !sameMemo(got, want) {
				t.Fatalf("P19.2: Hear of %v, %s: %s, %t, %d; want %s, %t, %d", put, brief(m), brief(got), news, f, brief(want), isNews, e)
			}
		}
		if e == api.OK && !isNews {
			return "again", e
		}
		return "Hear", e
	}
	m := d.turned(d.answered(b))
	e := b.agreed(m)
	for _, x := range desks {
		if f := x.Agreed(m); f != e {
			t.Fatalf("P19.2: Agreed of %s: %d, want %d", brief(m), f, e)
		}
	}
	return "Agreed", e
}

// P19.1, P19.2, P19.3: a desk by chance, against the book; what was loaded ahead of each call goes on just so.
func TestAgainstBook(t *testing.T) {
	if testing.Short() {
		t.Skip("some ten thousands of calls")
	}
	d := newDice(19)
	met := map[string]map[api.Errno]int{"Offer": {}, "Hear": {}, "again": {}, "Agreed": {}}
	for range 400 {
		b := &book{t: t, side: api.Side(d.Intn(2)), tall: 1 + d.Intn(4), best: deed.First(channel)}
		desks := []*desk.Desk{deskOf(t, b.side, b.tall)}
		for range 80 {
			// What was loaded goes on beside what was saved, for a while.
			if d.once(6) {
				desks = append(desks, loaded(t, b.side, b.tall, desks[0].Save()))
			}
			what, e := d.call(t, b, desks...)
			met[what][e]++
			want := b.image()
			for i, x := range desks {
				if !imageOf(x).same(want) {
					t.Fatalf("P19.2: behind %s, %d, the desk %d: the round %d, open %t; want %d, %t", what, e, i, x.Best().Round, imageOf(x).isOpen, b.best.Round, b.isOpen())
				}
			}
			if len(desks) > 2 {
				desks = desks[len(desks)-1:]
			}
		}
	}
	for what, l := range map[string][]api.Errno{
		"Offer":  {api.OK, api.ErrState, api.ErrLimit, api.ErrArg, api.ErrTurn, api.ErrRoom, api.ErrNone, api.ErrTwice, api.ErrUnder, api.ErrOver, api.ErrOp},
		"Hear":   {api.OK, api.ErrForm, api.ErrTurn, api.ErrRound, api.ErrArg, api.ErrRoom, api.ErrNone, api.ErrTwice, api.ErrUnder, api.ErrOver, api.ErrSign},
		"again":  {api.OK},
		"Agreed": {api.OK, api.ErrForm, api.ErrNone, api.ErrRound, api.ErrSign},
	} {
		for _, e := range l {
			if met[what][e] < 10 {
				t.Errorf("%s: the error %d was met %d times", what, e, met[what][e])
			}
		}
	}
}

// network are two desks of one channel, with what is saved of each, and memos on their way to each.
type network struct {
	dice
	t     *testing.T
	tall  int
	at    [2]*desk.Desk
	saved [2][]byte
	wire  [2][][]byte
	// sent are the signatures that each side sent, by rounds.
	sent [2]map[uint64]ring.Sig
	// How likely faults are: none at 0, else once in so many times.
	faults int
	met    map[string]int
}

func newNetwork(t *testing.T, seed int64, tall, faults int) *network {
	t.Helper()
	n := &network{dice: newDice(seed), t: t, tall: tall, faults: faults, met: map[string]int{}}
	for side := range n.at {
		n.at[side] = deskOf(t, api.Side(side), tall)
		n.saved[side] = n.at[side].Save()
		n.sent[side] = map[uint64]ring.Sig{}
	}
	return n
}

func (n *network) fault(name string) bool {
	is := n.faults > 0 && n.once(n.faults)
	if is {
		n.met[name]++
	}
	return is
}

func (n *network) reload(side int) {
	n.at[side] = loaded(n.t, api.Side(side), n.tall, n.saved[side])
}

// after saves what a call left, and sends what came of it; the power may go ahead of saving, or of sending.
func (n *network) after(side int, l ...memo.Memo) {
	if n.fault("not saved") {
		n.reload(side)
		return
	}
	n.saved[side] = n.at[side].Save()
	if n.fault("saved") {
		n.reload(side)
		return
	}
	for _, m := range l {
		n.send(side, m)
	}
}

// send asks that no side sends signatures of two states of one round.
func (n *network) send(side int, m memo.Memo) {
	p, e := m.Bytes()
	if e != api.OK {
		n.t.Fatalf("P18.2: what is sent has no bytes: %s, %d", brief(m), e)
	}
	if m.Kind != memo.Ask {
		if old, is := n.sent[side][m.Round]; is && !sameSig(old, m.Sig) {
			n.t.Fatalf("P19.4: the side %d signs two states of the round %d", side, m.Round)
		}
		n.sent[side][m.Round] = m.Sig
	}
	n.wire[1-side] = append(n.wire[1-side], p)
}

// act is what a side does on its own: what is open once more, or what it wants in its turn, or an Ask.
func (n *network) act(side int) {
	x := n.at[side]
	if m, ok := x.Open(); ok {
		n.send(side, m)
		return
	}
	if !x.Turn() {
		n.send(side, x.Ask())
		return
	}
	m, e := x.Offer([2]uint64{20, 20}, n.op(api.Side(side)), n.trail()...)
	if e == api.OK {
		n.after(side, m)
	}
}

// deliver takes one memo that is on its way, whichever, if there is one.
func (n *network) deliver(side int) {
	many := len(n.wire[side])
	if many == 0 {
		return
	}
	place := 0
	if n.fault("out of order") {
		place = n.Intn(many)
	}
	p := n.wire[side][place]
	if !n.fault("doubled") {
		n.wire[side] = slices.Delete(n.wire[side], place, place+1)
	}
	if n.fault("lost") {
		return
	}
	m, e := memo.Read(p)
	if e != api.OK {
		n.t.Fatalf("P18.3: what was sent isn't read: %d", e)
	}
	n.hear(side, m)
}

func (n *network) hear(side int, m memo.Memo) {
	switch m.Kind {
	case memo.Offer:
		x, _, e := n.at[side].Hear([2]uint64{20, 20}, m)
		if e == api.OK {
			n.after(side, x)
		}
	case memo.Agree:
		if n.at[side].Agreed(m) == api.OK {
			n.after(side)
		}
	}
}

// check asks what holds whatever happens.
func (n *network) check() {
	n.t.Helper()
	a, b := n.at[0].Best(), n.at[1].Best()
	k := rootsOf(n.t, n.tall)
	if !k.Whole(a, channel) || !k.Whole(b, channel) {
		n.t.Fatalf("P19.4: a best deed isn't right: the rounds %d and %d", a.Round, b.Round)
	}
	if a.Round > b.Round+1 || b.Round > a.Round+1 {
		n.t.Fatalf("P19.4: the rounds %d and %d", a.Round, b.Round)
	}
	if a.Round == b.Round && !sameDeed(a, b) {
		n.t.Fatalf("P19.4: of the round %d there are two states: %v, %v", a.Round, a.State, b.State)
	}
	if e := pact.Sound(a.State, [2]uint64{20, 20}); e != api.OK {
		n.t.Fatalf("P19.4: the state of the round %d: %d", a.Round, e)
	}
}

// settle delivers all, without faults, till nothing is open.
func (n *network) settle() {
	n.t.Helper()
	n.faults = 0
	for range 3 {
		for side := range n.at {
			n.act(side)
		}
		for len(n.wire[0])+len(n.wire[1]) > 0 {
			n.deliver(0)
			n.deliver(1)
			n.check()
		}
	}
	a, b := n.at[0].Best(), n.at[1].Best()
	_, left := n.at[0].Open()
	_, right := n.at[1].Open()
	if !sameDeed(a, b) || left || right {
		n.t.Fatalf("P19.4: nothing is lost any more, and the rounds are %d and %d, open %t and %t", a.Round, b.Round, left, right)
	}
}

// P19.4: memos lost, doubled, out of order; sides loaded again from what they saved last.
func TestTwoDesks(t *testing.T) {
	met := map[string]int{}
	rounds := uint64(0)
	for seed := range int64(40) {
		n := newNetwork(t, seed, 2+int(seed%4), []int{3, 5, 9, 20}[seed%4])
		for range 300 {
			side := n.Intn(2)
			if n.once(3) {
				n.act(side)
			} else {
				n.deliver(side)
			}
			if n.fault("loaded") {
				n.reload(side)
			}
			n.check()
		}
		n.settle()
		rounds += n.at[0].Best().Round
		for name, many := range n.met {
			met[name] += many
		}
	}
	if rounds < 200 {
		t.Errorf("all channels came to %d rounds", rounds)
	}
	for _, name := range []string{"lost", "doubled", "out of order", "loaded", "saved", "not saved"} {
		if met[name] < 100 {
			t.Errorf("%s: %d times", name, met[name])
		}
	}
}

// P19.4: a tall ring up to the last round, with faults on the way.
func TestTwoDesksTall(t *testing.T) {
	if testing.Short() {
		t.Skip("tall rings are made again each time that a side is loaded")
	}
	n := newNetwork(t, 7, 8, 12)
	for n.at[0].Best().Round < api.MaxRound || n.at[1].Best().Round < api.MaxRound {
		side := n.Intn(2)
		if n.once(3) {
			n.act(side)
		} else {
			n.deliver(side)
		}
		n.check()
		// Ever more memos that were doubled would else be heard in vain.
		if len(n.wire[0])+len(n.wire[1]) > 40 {
			n.wire = [2][][]byte{}
		}
	}
	n.settle()
	if !pact.Same(n.at[0].Best().State, n.at[1].Best().State) {
		t.Error("P19.4: the last round")
	}
}

// P19.4: power goes, or a memo is lost, behind each call of one round, in all ways together: it comes to its end, with one state.
func TestEachPlace(t *testing.T) {
	for faults := range 64 {
		p := pairAt(t, 3, 2)
		state, op := p.at[0].Best().State, lock(9, 0, 5)
		saved := [2][]byte{p.at[0].Save(), p.at[1].Save()}
		// comes says whether a call's memo does: the fault 1 is power that goes ahead of saving, 2 behind that, 3 a memo that is lost.
		comes := func(call int, side api.Side) bool {
			fault := faults >> (2 * call) & 3
			if fault != 1 {
				saved[side] = p.at[side].Save()
			}
			if fault == 1 || fault == 2 {
				p.at[side] = loaded(t, side, 3, saved[side])
			}
			return fault == 0
		}
		m, e := p.at[0].Offer(plenty, op, hops(2)...)
		if e != api.OK {
			t.Fatalf("P19.2: Offer: %d", e)
		}
		if comes(0, 0) {
			if x, _, e := p.at[1].Hear(plenty, m); e != api.OK {
				t.Fatalf("P19.2: Hear: %d", e)
			} else if comes(1, 1) {
				if e := p.at[0].Agreed(x); e != api.OK {
					t.Fatalf("P19.2: Agreed: %d", e)
				}
				comes(2, 0)
			}
		}
		// From here on there are no faults. What wasn't saved wasn't sent: another wish may come instead.
		if p.at[0].Turn() {
			op = pay(3)
			if _, e := p.at[0].Offer(plenty, op); e != api.OK || faults&3 != 1 {
				t.Errorf("P19.4: faults %d: no offer is open: %d", faults, e)
			}
		}
		if open, ok := p.at[0].Open(); ok {
			x, _, e := p.at[1].Hear(plenty, open)
			if f := p.at[0].Agreed(x); e != api.OK || f != api.OK || faults&3 != 1 && !sameMemo(open, m) {
				t.Errorf("P19.4: faults %d: %s, %d, %d", faults, brief(open), e, f)
			}
		}
		want, _ := pact.Next(state, plenty, 0, op)
		if a, b := p.at[0].Best(), p.at[1].Best(); !sameDeed(a, b) || !pact.Same(a.State, want) || !rootsOf(t, 3).Whole(a, channel) {
			t.Errorf("P19.4: faults %d: %v and %v, want %v", faults, a.State, b.State, want)
		}
	}
}
