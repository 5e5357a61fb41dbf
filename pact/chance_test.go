package pact_test

import (
	"math/big"
	"math/rand"
	"testing"

	"tollhouse/api"
	"tollhouse/pact"
)

func num(a uint64) *big.Int { return new(big.Int).SetUint64(a) }

func plus(l ...*big.Int) *big.Int {
	sum := new(big.Int)
	for _, n := range l {
		sum.Add(sum, n)
	}
	return sum
}

func minus(a, b *big.Int) *big.Int { return new(big.Int).Sub(a, b) }

// above says whether a number is above 2^64 - 1.
func above(n *big.Int) bool { return n.BitLen() > 64 }

// bookHeld, bookFree, bookSound, bookNext and bookSplit are the chapter's words in numbers without end.
func bookHeld(s api.State, side api.Side) *big.Int {
	held := new(big.Int)
	for _, c := range s.Conds {
		if c.By == side {
			held.Add(held, num(c.Amount))
		}
	}
	return held
}

func bookFree(s api.State, put [2]uint64, side int) (*big.Int, api.Errno) {
	has := plus(num(put[side]), num(s.Moved[1-side]))
	held := bookHeld(s, api.Side(side))
	free := minus(has, plus(num(s.Moved[side]), num(s.Taken[side]), held))
	switch {
	case above(held) || above(has):
		return new(big.Int), api.ErrOver
	case free.Sign() < 0:
		return new(big.Int), api.ErrUnder
	}
	return free, api.OK
}

func bookSound(s api.State, put [2]uint64) api.Errno {
	if s.Round > 200 || len(s.Conds) > 8 {
		return api.ErrLimit
	}
	ids := map[uint64]int{}
	for _, c := range s.Conds {
		if c.By != 0 && c.By != 1 || c.Amount == 0 {
			return api.ErrArg
		}
		if ids[c.Id] > 0 {
			return api.ErrTwice
		}
		ids[c.Id]++
	}
	for side := range 2 {
		if _, e := bookFree(s, put, side); e != api.OK {
			return e
		}
	}
	return api.OK
}

// bookNext builds what comes anew, field by field.
func bookNext(s api.State, put [2]uint64, by api.Side, op pact.Op) (api.State, api.Errno) {
	if e := bookSound(s, put); e != api.OK {
		return api.State{}, e
	}
	if s.Round == 200 {
		return api.State{}, api.ErrLimit
	}
	if by != api.Side(s.Round%2) {
		return api.State{}, api.ErrTurn
	}
	free, _ := bookFree(s, put, int(by))
	room := func(amount uint64) api.Errno {
		if amount == 0 {
			return api.ErrArg
		}
		if num(amount).Cmp(free) > 0 {
			return api.ErrRoom
		}
		return api.OK
	}
	at := -1
	for i, c := range s.Conds {
		if c.Id == op.Id {
			at = i
		}
	}
	n := api.State{Channel: s.Channel, Round: s.Round + 1, Moved: s.Moved, Taken: s.Taken}
	for i, c := range s.Conds {
		if op.Kind != pact.Done && op.Kind != pact.Undo || i != at {
			n.Conds = append(n.Conds, c)
		}
	}
	e := api.OK
	switch op.Kind {
	case pact.Pass:
	case pact.Pay:
		e = room(op.Amount)
		if e == api.OK && above(plus(num(s.Moved[by]), num(op.Amount))) {
			e = api.ErrOver
		}
		n.Moved[by] += op.Amount
	case pact.Take:
		e = room(op.Amount)
		if e == api.OK && above(plus(num(s.Taken[by]), num(op.Amount))) {
			e = api.ErrOver
		}
		n.Taken[by] += op.Amount
	case pact.Lock:
		e = bookLock(s, by, op.Cond)
		if e == api.OK {
			e = room(op.Cond.Amount)
		}
		n.Conds = append(n.Conds, op.Cond)
	case pact.Done, pact.Undo:
		if at < 0 {
			return api.State{}, api.ErrNone
		}
		if c := s.Conds[at]; op.Kind == pact.Done {
			if above(plus(num(s.Moved[c.By]), num(c.Amount))) {
				e = api.ErrOver
			}
			n.Moved[c.By] += c.Amount
		}
	default:
		e = api.ErrOp
	}
	if e == api.OK {
		e = bookSound(n, put)
	}
	if e != api.OK {
		return api.State{}, e
	}
	return n, api.OK
}

func bookLock(s api.State, by api.Side, c api.Cond) api.Errno {
	if c.By != by {
		return api.ErrArg
	}
	for _, old := range s.Conds {
		if old.Id == c.Id {
			return api.ErrTwice
		}
	}
	if len(s.Conds) == 8 {
		return api.ErrFull
	}
	return api.OK
}

func bookSplit(s api.State, put, paid [2]uint64, done []bool) ([2]uint64, api.Errno) {
	if e := bookSound(s, put); e != api.OK {
		return [2]uint64{}, e
	}
	if len(done) != len(s.Conds) {
		return [2]uint64{}, api.ErrArg
	}
	var last [2]uint64
	for side := range 2 {
		if paid[side] > s.Taken[side] {
			return [2]uint64{}, api.ErrUnder
		}
		has, _ := bookFree(s, put, side)
		has = minus(plus(has, num(s.Taken[side])), num(paid[side]))
		for i, c := range s.Conds {
			if int(c.By) == side && !done[i] || int(c.By) != side && done[i] {
				has = plus(has, num(c.Amount))
			}
		}
		if above(has) {
			return [2]uint64{}, api.ErrOver
		}
		last[side] = has.Uint64()
	}
	return last, api.OK
}

// dice are what tests take by chance, the same each time.
type dice struct{ *rand.Rand }

func newDice(seed int64) dice { return dice{rand.New(rand.NewSource(seed))} }

func (d dice) pick(l ...uint64) uint64 { return l[d.Intn(len(l))] }

// amount is small, or lies at an end.
func (d dice) amount() uint64 {
	return d.pick(0, 0, 1, 2, 3, 5, 8, uint64(d.Intn(30)), 1<<32, half-1, half, top-2, top-1, top)
}

// more is an amount or a greater one.
func (d dice) more(a uint64) uint64 { return a + (top-a)>>d.Intn(64) }

func (d dice) some(many int) []bool {
	l := make([]bool, many)
	for i := range l {
		l[i] = d.Intn(2) == 0
	}
	return l
}

// anyState most often may not be.
func (d dice) anyState() api.State {
	s := state(d.pick(0, 1, 2, 9, 199, 200, 200, 201, top), [2]uint64{d.amount(), d.amount()}, [2]uint64{d.amount(), d.amount()})
	if d.Intn(2) == 0 {
		s.Moved, s.Taken = [2]uint64{d.pick(0, 1, 2), d.pick(0, 1, 2)}, [2]uint64{d.pick(0, 1), d.pick(0, 1)}
	}
	for range d.Intn(11) {
		by := api.Side(d.Intn(2))
		if d.Intn(20) == 0 {
			by = farSides[d.Intn(len(farSides))]
		}
		s.Conds = append(s.Conds, cond(uint64(d.Intn(40)), by, d.pick(1, 1, 1, 2, d.amount())))
	}
	return s
}

// op is a wish of a side in a state: most often one that may be.
func (d dice) op(s api.State, put [2]uint64, by api.Side) pact.Op {
	free, _ := pact.Free(s, put, by)
	amount := d.pick(1, 1, 2, 3, 3, free/2, free, free+1, d.amount())
	id := uint64(d.Intn(30))
	if len(s.Conds) > 0 && d.Intn(4) > 0 {
		id = s.Conds[d.Intn(len(s.Conds))].Id
	}
	whose := by
	if d.Intn(12) == 0 {
		whose = api.Side(d.Intn(4) - 1)
	}
	return pact.Op{Kind: d.Intn(9) - 1, Amount: amount, Id: id, Cond: cond(uint64(d.Intn(30)), whose, amount)}
}

// checkState holds what is told of a state against the book.
func checkState(t *testing.T, s api.State, put [2]uint64) {
	t.Helper()
	for side := range 2 {
		want, e := bookFree(s, put, side)
		if got, f := pact.Free(s, put, api.Side(side)); got != want.Uint64() || f != e {
			t.Fatalf("P12.1: Free of %v, %d, %d: %d, %d; want %d, %d", s, put, side, got, f, want, e)
		}
	}
	if got, want := pact.Sound(s, put), bookSound(s, put); got != want {
		t.Fatalf("P12.1: Sound of %v, %d: %d, want %d", s, put, got, want)
	}
}

func checkSplit(t *testing.T, s api.State, put, paid [2]uint64, done []bool) api.Errno {
	t.Helper()
	want, e := bookSplit(s, put, paid, done)
	got, f := pact.Split(s, put, paid, done...)
	if got != want || f != e {
		t.Fatalf("P12.2: Split of %v, %d, %d, %v: %d, %d; want %d, %d", s, put, paid, done, got, f, want, e)
	}
	// P12.3: it comes to what both put in, less what was paid out.
	if f == api.OK && plus(num(got[0]), num(got[1]), num(paid[0]), num(paid[1])).Cmp(plus(num(put[0]), num(put[1]))) != 0 {
		t.Fatalf("P12.3: Split of %v, %d, %d, %v: %d", s, put, paid, done, got)
	}
	return f
}

func checkNext(t *testing.T, s api.State, put [2]uint64, by api.Side, op pact.Op) (api.State, api.Errno) {
	t.Helper()
	before := twin(s)
	want, e := bookNext(s, put, by, op)
	got, f := pact.Next(s, put, by, op)
	if f != e || !same(got, want) {
		t.Fatalf("P12.2: Next of %v, %d by %d, %v: %v, %d; want %v, %d", s, put, by, op, got, f, want, e)
	}
	if !same(s, before) {
		t.Fatalf("R3: Next turned %v", s)
	}
	return got, f
}

// P12.1, P12.2: states by chance, most of which may not be, against the book.
func TestAnyState(t *testing.T) {
	d := newDice(12)
	met := map[api.Errno]int{}
	for range 40000 {
		s := d.anyState()
		put := [2]uint64{d.pick(10, 20, d.amount()), d.pick(10, 20, d.amount())}
		checkState(t, s, put)
		by := api.Side(s.Round % 2)
		if d.Intn(8) == 0 {
			by = api.Side(d.Intn(4) - 1)
		}
		_, e := checkNext(t, s, put, by, d.op(s, put, api.Side(d.Intn(2))))
		met[e]++
		many := len(s.Conds)
		if d.Intn(8) == 0 {
			many = d.Intn(10)
		}
		met[checkSplit(t, s, put, [2]uint64{d.pick(0, 1, s.Taken[0], d.amount()), d.pick(0, 1, s.Taken[1])}, d.some(many))]++
	}
	for _, e := range []api.Errno{api.OK, api.ErrArg, api.ErrTwice, api.ErrLimit, api.ErrOver, api.ErrUnder, api.ErrTurn, api.ErrRoom, api.ErrNone, api.ErrOp} {
		if met[e] < 20 {
			t.Errorf("the error %d was met %d times", e, met[e])
		}
	}
}

// worth is what a side has free, holds, and has Taken together.
func worth(s api.State, put [2]uint64, side api.Side) *big.Int {
	free, _ := bookFree(s, put, int(side))
	return plus(free, bookHeld(s, side), num(s.Taken[side]))
}

// checkFair is P12.3, of one step.
func checkFair(t *testing.T, s, next api.State, put [2]uint64, by api.Side, op pact.Op) {
	t.Helper()
	other := 1 - by
	least := worth(s, put, other)
	if place := pact.Find(s, op.Id); op.Kind == pact.Done && s.Conds[place].By == other {
		least = minus(least, num(s.Conds[place].Amount))
	}
	if got := worth(next, put, other); got.Cmp(least) < 0 {
		t.Fatalf("P12.3: %v, %d: by %v of %d the other side has %d, had %d", s, put, op, by, got, least)
	}
	if all, was := plus(worth(next, put, 0), worth(next, put, 1)), plus(num(put[0]), num(put[1])); all.Cmp(was) != 0 {
		t.Fatalf("P12.3: %v, %d: both have %d", next, put, all)
	}
}

// P12.2, P12.3: channels that go on step by step: what comes may be, also if more is put in; nobody has less; what is paid out at last comes to what was put in.
func TestChannels(t *testing.T) {
	d := newDice(13)
	steps := map[int]int{}
	raised := map[api.Errno]int{}
	full := 0
	for range 400 {
		put := [2]uint64{d.pick(0, 10, 30, half, top, d.amount()), d.pick(0, 10, 30, half, d.amount())}
		s := pact.New(3)
		fond := d.Intn(6) // of a kind that this channel does most
		for range 300 {
			by := api.Side(s.Round % 2)
			op := d.op(s, put, by)
			if d.Intn(2) == 0 {
				op.Kind = fond
			}
			next, e := checkNext(t, s, put, by, op)
			if e != api.OK {
				continue
			}
			if f := bookSound(next, put); f != api.OK {
				t.Fatalf("P12.3: what comes may not be: %v, %d: %d", next, put, f)
			}
			checkFair(t, s, next, put, by, op)
			more := [2]uint64{d.more(put[0]), d.more(put[1])}
			f := pact.Sound(next, more)
			if f != api.OK && f != api.ErrOver {
				t.Fatalf("P12.3: with more put in: %v, %d: %d", next, more, f)
			}
			raised[f]++
			checkSplit(t, next, put, [2]uint64{d.Uint64() % (next.Taken[0]/2 + 1), next.Taken[1]}, d.some(len(next.Conds)))
			if len(next.Conds) == 8 {
				full++
			}
			steps[op.Kind]++
			s = next
		}
	}
	for kind := range 6 {
		if steps[kind] < 500 {
			t.Errorf("the kind %d was done %d times", kind, steps[kind])
		}
	}
	if raised[api.OK] < 500 || raised[api.ErrOver] < 500 {
		t.Errorf("with more put in: %v", raised)
	}
	if full < 20 {
		t.Errorf("8 payments were pending %d times", full)
	}
}

// P12.3: what may be still may be, if more is put in, or is ErrOver: at the end of the numbers.
func TestMorePut(t *testing.T) {
	s := state(9, [2]uint64{4, 3}, [2]uint64{6, 8}, cond(1, 0, 5), cond(2, 1, 20))
	for _, c := range []struct {
		put  [2]uint64
		want api.Errno
	}{
		{[2]uint64{12, 27}, api.OK},
		{[2]uint64{11, 27}, api.ErrUnder},
		{[2]uint64{12, 26}, api.ErrUnder},
		{[2]uint64{13, 27}, api.OK},
		{[2]uint64{top - 3, 27}, api.OK},
		{[2]uint64{top - 2, 27}, api.ErrOver},
		{[2]uint64{top, 27}, api.ErrOver},
		{[2]uint64{12, top - 4}, api.OK},
		{[2]uint64{12, top - 3}, api.ErrOver},
		{[2]uint64{top - 3, top - 4}, api.OK},
	} {
		if got := pact.Sound(s, c.put); got != c.want {
			t.Errorf("P12.3: of %d: %d, want %d", c.put, got, c.want)
		}
	}
}
