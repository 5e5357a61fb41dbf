package pact_test

import (
	"math"
	"slices"
	"testing"

	"tollhouse/api"
	"tollhouse/pact"
)

// wantNext is a step that must be done.
func wantNext(t *testing.T, name string, s api.State, put [2]uint64, by api.Side, op pact.Op, want api.State) {
	t.Helper()
	before := twin(s)
	got, e := pact.Next(s, put, by, op)
	if e != api.OK || !same(got, want) {
		t.Errorf("P12.2: %s: %v, %d; want %v", name, got, e, want)
	}
	if !same(s, before) {
		t.Errorf("R3: %s: the state given was turned: %v", name, s)
	}
}

// wantRefused is a step that must be refused.
func wantRefused(t *testing.T, name string, s api.State, put [2]uint64, by api.Side, op pact.Op, want api.Errno) {
	t.Helper()
	before := twin(s)
	got, e := pact.Next(s, put, by, op)
	if e != want || !isZero(got) {
		t.Errorf("P12.2: %s: %v, %d; want %d", name, got, e, want)
	}
	if !same(s, before) {
		t.Errorf("R3: %s: the state given was turned: %v", name, s)
	}
}

// The chapter's example.
func TestExample(t *testing.T) {
	put := [2]uint64{10, 0}
	s, e := pact.Next(pact.New(3), put, api.Left, pact.Op{Kind: pact.Pay, Amount: 4})
	if e != api.OK || s.Round != 1 {
		t.Fatalf("P12.2: %v, %d", s, e)
	}
	for side, want := range []uint64{6, 4} {
		if free, e := pact.Free(s, put, api.Side(side)); free != want || e != api.OK {
			t.Errorf("P12.2: %d has %d free, %d; want %d", side, free, e, want)
		}
	}
}

// P12.2: each kind, by each side.
func TestNextKinds(t *testing.T) {
	put := [2]uint64{100, 100}
	kinds := []int{pact.Pass, pact.Pay, pact.Lock, pact.Done, pact.Undo, pact.Take}
	if !slices.Equal(kinds, []int{0, 1, 2, 3, 4, 5}) {
		t.Errorf("P12.2: the kinds are %d", kinds)
	}
	for _, by := range []api.Side{api.Left, api.Right} {
		round := uint64(6 + by) // the side's turn is the one behind it
		l := []api.Cond{cond(5, 0, 6), cond(7, 1, 8), cond(9, 0, 2)}
		s := state(round, [2]uint64{1, 2}, [2]uint64{3, 4}, l...)
		next := func(turn func(*api.State)) api.State {
			x := twin(s)
			x.Round = round + 1
			turn(&x)
			return x
		}
		wantNext(t, "Pass", s, put, by, pact.Op{Kind: 0}, next(func(*api.State) {}))
		wantNext(t, "Pay", s, put, by, pact.Op{Kind: 1, Amount: 5}, next(func(x *api.State) { x.Moved[by] += 5 }))
		wantNext(t, "Take", s, put, by, pact.Op{Kind: 5, Amount: 5}, next(func(x *api.State) { x.Taken[by] += 5 }))
		c := cond(8, by, 5)
		wantNext(t, "Lock", s, put, by, pact.Op{Kind: 2, Cond: c}, next(func(x *api.State) { x.Conds = append(x.Conds, c) }))
		for place, c := range l {
			less := slices.Delete(slices.Clone(l), place, place+1)
			wantNext(t, "Done", s, put, by, pact.Op{Kind: 3, Id: c.Id}, next(func(x *api.State) { x.Conds, x.Moved[c.By] = less, x.Moved[c.By]+c.Amount }))
			wantNext(t, "Undo", s, put, by, pact.Op{Kind: 4, Id: c.Id}, next(func(x *api.State) { x.Conds = less }))
		}
	}
}

// P12.2: what a kind hasn't doesn't count.
func TestNextOtherFields(t *testing.T) {
	put := [2]uint64{100, 100}
	s := state(6, [2]uint64{1, 2}, [2]uint64{3, 4}, cond(5, 0, 6))
	for _, junk := range []pact.Op{
		{Amount: top, Id: top, Cond: cond(5, 7, 0)},
		{Amount: 1, Id: 5, Cond: cond(6, 0, 1)},
	} {
		for kind := range 6 {
			bare, op := pact.Op{Kind: kind}, junk
			op.Kind = kind
			switch kind {
			case pact.Pay, pact.Take:
				bare.Amount, op.Amount = 2, 2
			case pact.Lock:
				bare.Cond, op.Cond = cond(6, 0, 2), cond(6, 0, 2)
			case pact.Done, pact.Undo:
				bare.Id, op.Id = 5, 5
			}
			want, e := pact.Next(s, put, 0, bare)
			if e != api.OK {
				t.Errorf("P12.2: kind %d: %d", kind, e)
			}
			wantNext(t, "a wish with what its kind hasn't", s, put, 0, op, want)
		}
	}
}

// P12.2: rounds and turns.
func TestNextTurns(t *testing.T) {
	s := func(round uint64) api.State { return state(round, [2]uint64{}, [2]uint64{}) }
	for round := range uint64(200) {
		by := api.Side(round % 2)
		wantNext(t, "its turn", s(round), [2]uint64{}, by, pact.Op{}, s(round+1))
		wantRefused(t, "the other side's turn", s(round), [2]uint64{}, 1-by, pact.Op{}, api.ErrTurn)
	}
	for _, by := range []api.Side{0, 1, 2, -1} {
		for kind := -1; kind <= 6; kind++ {
			wantRefused(t, "the round 200", s(200), [2]uint64{}, by, pact.Op{Kind: kind}, api.ErrLimit)
			wantRefused(t, "the round 201", s(201), [2]uint64{}, by, pact.Op{Kind: kind}, api.ErrLimit)
			wantRefused(t, "the last round", s(top), [2]uint64{}, by, pact.Op{Kind: kind}, api.ErrLimit)
		}
	}
	for _, by := range farSides {
		for round := range uint64(3) {
			wantRefused(t, "no side", s(round), [2]uint64{5, 5}, by, pact.Op{Kind: pact.Pay, Amount: 1}, api.ErrTurn)
		}
	}
}

// P12.2: every kind out of its turn, whatever else is wrong with it.
func TestNextOutOfTurn(t *testing.T) {
	l := alike(8, 1, 1)
	for _, op := range []pact.Op{
		{Kind: -1}, {Kind: 6}, {Kind: math.MinInt}, {Kind: pact.Pay}, {Kind: pact.Pay, Amount: top}, {Kind: pact.Take},
		{Kind: pact.Lock}, {Kind: pact.Lock, Cond: cond(1, 5, 1)}, {Kind: pact.Lock, Cond: cond(20, 1, 1)},
		{Kind: pact.Done, Id: 99}, {Kind: pact.Done, Id: 1}, {Kind: pact.Undo, Id: 99}, {Kind: pact.Undo, Id: 1},
	} {
		wantRefused(t, "out of turn", state(6, [2]uint64{}, [2]uint64{}, l...), [2]uint64{0, 100}, api.Right, op, api.ErrTurn)
	}
}

// P12.2: kinds that there aren't.
func TestNextNoKind(t *testing.T) {
	for _, kind := range []int{-1, 6, 7, -2, 255, 256, 257, 1 << 32, 1<<32 + 1, math.MinInt, math.MaxInt} {
		op := pact.Op{Kind: kind, Amount: 1, Id: 5, Cond: cond(6, 0, 1)}
		wantRefused(t, "no kind", state(6, [2]uint64{}, [2]uint64{}, cond(5, 0, 6)), [2]uint64{100, 100}, 0, op, api.ErrOp)
		wantRefused(t, "no kind, of nothing", pact.New(3), [2]uint64{}, 0, pact.Op{Kind: kind}, api.ErrOp)
	}
}

// P12.2: Pay, Take and Lock with nothing, with just enough, and with one more.
func TestNextRoom(t *testing.T) {
	for _, by := range []api.Side{api.Left, api.Right} {
		put := [2]uint64{40, 40}
		moved, taken := [2]uint64{3, 3}, [2]uint64{}
		moved[1-by], taken[by] = 8, 5
		s := state(6+uint64(by), moved, taken, cond(1, by, 4), cond(2, 1-by, 9))
		const free = 40 + 8 - 3 - 5 - 4
		for _, kind := range []int{pact.Pay, pact.Take, pact.Lock} {
			op := func(amount uint64) pact.Op {
				if kind == pact.Lock {
					return pact.Op{Kind: kind, Cond: cond(6, by, amount)}
				}
				return pact.Op{Kind: kind, Amount: amount}
			}
			for _, amount := range []uint64{1, free - 1, free} {
				x, e := pact.Next(s, put, by, op(amount))
				left, f := pact.Free(x, put, by)
				if e != api.OK || f != api.OK || left != free-amount {
					t.Errorf("P12.2: kind %d of %d by %d: %d, %d free", kind, amount, by, e, left)
				}
			}
			wantRefused(t, "nothing", s, put, by, op(0), api.ErrArg)
			for _, amount := range []uint64{free + 1, free + 2, 1 << 32, half, top - 1, top} {
				wantRefused(t, "more than is free", s, put, by, op(amount), api.ErrRoom)
			}
		}
	}
	wantRefused(t, "nothing, by nobody who has any", pact.New(3), [2]uint64{}, 0, pact.Op{Kind: pact.Pay}, api.ErrArg)
	wantRefused(t, "of nothing free", pact.New(3), [2]uint64{0, top}, 0, pact.Op{Kind: pact.Pay, Amount: 1}, api.ErrRoom)
}

// P12.2: which error of a Lock is told, in the chapter's order.
func TestNextLockErrors(t *testing.T) {
	put := [2]uint64{100, 100}
	none := [2]uint64{}
	eight := state(6, none, none, alike(8, 0, 1)...)
	seven := state(6, none, none, alike(7, 0, 1)...)
	for _, c := range []struct {
		name string
		s    api.State
		c    api.Cond
		want api.Errno
	}{
		{"by the other side", seven, cond(9, 1, 1), api.ErrArg},
		{"by no side", seven, cond(9, 2, 1), api.ErrArg},
		{"by -1", seven, cond(9, -1, 1), api.ErrArg},
		{"by 256", seven, cond(9, 256, 1), api.ErrArg},
		{"an Id that is pending, the first one's", seven, cond(1, 0, 1), api.ErrTwice},
		{"an Id that is pending, the last one's", seven, cond(7, 0, 1), api.ErrTwice},
		{"a ninth one", eight, cond(9, 0, 1), api.ErrFull},
		{"by the other side, of a pending Id", eight, cond(1, 1, 0), api.ErrArg},
		{"of a pending Id, a ninth one", eight, cond(8, 0, 1), api.ErrTwice},
		{"of a pending Id, of 0", seven, cond(3, 0, 0), api.ErrTwice},
		{"of a pending Id, of too much", seven, cond(3, 0, top), api.ErrTwice},
		{"a ninth one, of 0", eight, cond(9, 0, 0), api.ErrFull},
		{"a ninth one, of too much", eight, cond(9, 0, top), api.ErrFull},
		{"of 0", seven, cond(9, 0, 0), api.ErrArg},
		{"of too much", seven, cond(9, 0, 94), api.ErrRoom},
	} {
		wantRefused(t, c.name, c.s, put, 0, pact.Op{Kind: pact.Lock, Cond: c.c}, c.want)
	}
	c := cond(9, 0, 93)
	want := twin(seven)
	want.Round, want.Conds = 7, append(want.Conds, c)
	wantNext(t, "an eighth one", seven, put, 0, pact.Op{Kind: pact.Lock, Cond: c}, want)
}

// P12.2: done and undone from the front, the middle and the end, by either side, of either side; the order stays.
func TestNextOut(t *testing.T) {
	put := [2]uint64{100, 100}
	for many := 1; many <= 8; many++ {
		for place := range many {
			for mix := range 4 {
				l := alike(many, 0, 3)
				for i := range l {
					l[i].By = api.Side((i + mix) / (1 + mix/2) % 2)
					l[i].Amount += uint64(i)
				}
				by := api.Side(mix % 2)
				s := state(6+uint64(by), [2]uint64{1, 2}, [2]uint64{3, 4}, l...)
				want := twin(s)
				want.Round++
				want.Conds = slices.Delete(want.Conds, place, place+1)
				wantNext(t, "Undo", s, put, by, pact.Op{Kind: pact.Undo, Id: l[place].Id}, want)
				want.Moved[l[place].By] += l[place].Amount
				wantNext(t, "Done", s, put, by, pact.Op{Kind: pact.Done, Id: l[place].Id}, want)
			}
		}
	}
	s := state(6, [2]uint64{}, [2]uint64{}, alike(3, 1, 1)...)
	for _, id := range []uint64{0, 4, 1<<32 + 1, half + 1, top} {
		wantRefused(t, "Done of no Id", s, put, 0, pact.Op{Kind: pact.Done, Id: id}, api.ErrNone)
		wantRefused(t, "Undo of no Id", s, put, 0, pact.Op{Kind: pact.Undo, Id: id}, api.ErrNone)
	}
	wantRefused(t, "Done of a new state", pact.New(3), put, 0, pact.Op{Kind: pact.Done}, api.ErrNone)
	wantRefused(t, "Undo of a new state", pact.New(3), put, 0, pact.Op{Kind: pact.Undo}, api.ErrNone)
}

// P12.2: what is wrong with the state comes ahead of what is wrong with the wish.
func TestNextSoundFirst(t *testing.T) {
	none := [2]uint64{}
	for _, c := range []struct {
		name string
		s    api.State
		want api.Errno
	}{
		{"the round", state(201, none, none), api.ErrLimit},
		{"the payments", state(6, none, none, alike(9, 0, 1)...), api.ErrLimit},
		{"a payment by no side", state(6, none, none, cond(1, 3, 1)), api.ErrArg},
		{"a payment by no side, in the round 200", state(200, none, none, cond(1, 3, 1)), api.ErrArg},
		{"two of one Id", state(6, none, none, cond(1, 1, 1), cond(1, 1, 1)), api.ErrTwice},
		{"Left is below", state(6, [2]uint64{101, 0}, none), api.ErrUnder},
		{"Right is below", state(200, none, [2]uint64{0, 101}), api.ErrUnder},
		{"Left is above", state(6, [2]uint64{0, top}, none), api.ErrOver},
	} {
		for _, by := range []api.Side{0, 1, 2} {
			for kind := -1; kind <= 6; kind++ {
				wantRefused(t, c.name, c.s, [2]uint64{100, 100}, by, pact.Op{Kind: kind}, c.want)
			}
		}
	}
}

// P12.2: what would come is asked whole: the other side's sum may go round only then.
func TestNextWhole(t *testing.T) {
	put := [2]uint64{top, top}
	none := [2]uint64{}
	for _, by := range []api.Side{api.Left, api.Right} {
		round := 6 + uint64(by)
		other := 1 - by
		s := state(round, none, none)
		wantRefused(t, "Pay, one above", s, put, by, pact.Op{Kind: pact.Pay, Amount: 1}, api.ErrOver)
		wantRefused(t, "Pay, far above", s, put, by, pact.Op{Kind: pact.Pay, Amount: top}, api.ErrOver)
		take := twin(s)
		take.Round++
		take.Taken[by] = top
		wantNext(t, "Take of the most", s, put, by, pact.Op{Kind: pact.Take, Amount: top}, take)
		lock := twin(s)
		lock.Round++
		lock.Conds = []api.Cond{cond(1, by, top)}
		wantNext(t, "Lock of the most", s, put, by, pact.Op{Kind: pact.Lock, Cond: lock.Conds[0]}, lock)
		less := put
		less[other] = top - 5
		pay := twin(s)
		pay.Round++
		pay.Moved[by] = 5
		wantNext(t, "Pay, up to the most", s, less, by, pact.Op{Kind: pact.Pay, Amount: 5}, pay)
		wantRefused(t, "Pay, one more", s, less, by, pact.Op{Kind: pact.Pay, Amount: 6}, api.ErrOver)
		for _, whose := range []api.Side{api.Left, api.Right} {
			pending := state(round, none, none, cond(1, whose, 6))
			room := put
			room[1-whose] = top - 6
			done := state(round+1, none, none)
			done.Moved[whose] = 6
			wantNext(t, "Done, up to the most", pending, room, by, pact.Op{Kind: pact.Done, Id: 1}, done)
			room[1-whose]++
			wantRefused(t, "Done, one above", pending, room, by, pact.Op{Kind: pact.Done, Id: 1}, api.ErrOver)
			wantNext(t, "Undo there", pending, room, by, pact.Op{Kind: pact.Undo, Id: 1}, state(round+1, none, none))
		}
	}
}

// P12.2: what was Moved, or is Taken, up to the end of the numbers.
func TestNextEnds(t *testing.T) {
	none := [2]uint64{}
	for _, by := range []api.Side{api.Left, api.Right} {
		round := 6 + uint64(by)
		pair := func(own, other uint64) [2]uint64 {
			var p [2]uint64
			p[by], p[1-by] = own, other
			return p
		}
		s := state(round, pair(top-5, 0), none)
		wantNext(t, "Pay up to the end", s, pair(top, 0), by, pact.Op{Kind: pact.Pay, Amount: 5}, state(round+1, pair(top, 0), none))
		wantRefused(t, "Pay beyond the end", s, pair(top, 0), by, pact.Op{Kind: pact.Pay, Amount: 6}, api.ErrRoom)
		s = state(round, none, pair(top-5, 0))
		wantNext(t, "Take up to the end", s, pair(top, 0), by, pact.Op{Kind: pact.Take, Amount: 5}, state(round+1, none, pair(top, 0)))
		wantRefused(t, "Take beyond the end", s, pair(top, 0), by, pact.Op{Kind: pact.Take, Amount: 6}, api.ErrRoom)
		s = state(round, pair(top-5, 0), none, cond(1, by, 5))
		wantNext(t, "Done up to the end", s, pair(top, 0), by, pact.Op{Kind: pact.Done, Id: 1}, state(round+1, pair(top, 0), none))
		// Of what a side has, never more was Moved and is pending than the end; so Done goes beyond it only of what the other side has.
		wantRefused(t, "Done, the other side has the most", s, pair(top, 1), by, pact.Op{Kind: pact.Done, Id: 1}, api.ErrOver)
		wantNext(t, "Done, the other side moved back", state(round, pair(top-5, top-5), none, cond(1, by, 5)), pair(5, 0), by, pact.Op{Kind: pact.Done, Id: 1}, state(round+1, pair(top, top-5), none))
	}
}

// R3: neither the room behind a state's payments is used, nor is anything of it handed out.
func TestNextRoomBehind(t *testing.T) {
	put := [2]uint64{100, 100}
	for _, op := range []pact.Op{
		{Kind: pact.Pass}, {Kind: pact.Pay, Amount: 1}, {Kind: pact.Lock, Cond: cond(9, 0, 2)},
		{Kind: pact.Done, Id: 1}, {Kind: pact.Undo, Id: 1}, {Kind: pact.Undo, Id: 2}, {Kind: pact.Take, Amount: 1},
	} {
		room := alike(5, 1, 1)
		s := state(6, [2]uint64{}, [2]uint64{}, room[:3]...)
		a, e := pact.Next(s, put, 0, op)
		b, f := pact.Next(s, put, 0, op)
		if e != api.OK || f != api.OK || !slices.Equal(room, alike(5, 1, 1)) {
			t.Errorf("R3: kind %d: %d, %d: the payments, or the room behind them, were turned: %v", op.Kind, e, f, room)
		}
		want := twin(b)
		clear(a.Conds[:cap(a.Conds)])
		if !slices.Equal(room, alike(5, 1, 1)) || !same(b, want) {
			t.Errorf("R3: kind %d: what came of it shares memory", op.Kind)
		}
		clear(room)
		if !same(b, want) {
			t.Errorf("R3: kind %d: the payments were kept", op.Kind)
		}
	}
}
