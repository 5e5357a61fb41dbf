package pact_test

import (
	"math"
	"slices"
	"testing"

	"tollhouse/api"
	"tollhouse/pact"
)

const (
	top  = math.MaxUint64
	half = 1 << 63
)

// farSides are numbers that are no side.
var farSides = []api.Side{-1, 2, 3, -2, 255, 256, 257, 1 << 32, 1<<32 + 1, math.MinInt, math.MinInt + 1, math.MaxInt}

// cond is a payment; its hash and expiry hang on its Id.
func cond(id uint64, by api.Side, amount uint64) api.Cond {
	return api.Cond{Id: id, By: by, Amount: amount, Hash: api.Hash{byte(id), 31: 7}, Expiry: id + 100}
}

// alike are so many payments by a side, of an amount each, with Ids from 1 on.
func alike(many int, by api.Side, amount uint64) []api.Cond {
	var l []api.Cond
	for i := range many {
		l = append(l, cond(uint64(i+1), by, amount))
	}
	return l
}

// state is one of the channel 3.
func state(round uint64, moved, taken [2]uint64, l ...api.Cond) api.State {
	return api.State{Channel: 3, Round: round, Moved: moved, Taken: taken, Conds: l}
}

// twin is a state alike, not by the package's own call.
func twin(s api.State) api.State {
	s.Conds = append([]api.Cond{}, s.Conds...)
	return s
}

// same says whether two states are one, not by the package's own call.
func same(a, b api.State) bool {
	return a.Channel == b.Channel && a.Round == b.Round && a.Moved == b.Moved && a.Taken == b.Taken && slices.Equal(a.Conds, b.Conds)
}

func isZero(s api.State) bool { return same(s, api.State{}) }

// P12.1.
func TestTurnOther(t *testing.T) {
	for _, c := range []struct {
		round uint64
		want  api.Side
	}{
		{0, api.Right}, {1, api.Left}, {2, api.Right}, {3, api.Left}, {199, api.Left}, {200, api.Right}, {201, api.Left},
		{1<<32 - 1, api.Left}, {1 << 32, api.Right}, {half, api.Right}, {half + 1, api.Left}, {top - 1, api.Right}, {top, api.Left},
	} {
		if got := pact.Turn(c.round); got != c.want {
			t.Errorf("P12.1: Turn(%d): %d, want %d", c.round, got, c.want)
		}
	}
	if pact.Other(api.Left) != api.Right || pact.Other(api.Right) != api.Left {
		t.Errorf("P12.1: Other: %d, %d", pact.Other(api.Left), pact.Other(api.Right))
	}
	for _, side := range farSides {
		pact.Other(side)
	}
}

// P12.1: a new state has its channel, and nothing else.
func TestNew(t *testing.T) {
	for _, channel := range []uint32{0, 1, 3, 255, 256, 1 << 31, math.MaxUint32} {
		s := pact.New(channel)
		if s.Channel != channel || s.Round != 0 || s.Moved != [2]uint64{} || s.Taken != [2]uint64{} || len(s.Conds) != 0 {
			t.Errorf("P12.1: New(%d): %v", channel, s)
		}
		for _, put := range [][2]uint64{{}, {10, 0}, {0, 10}, {top, top}} {
			if e := pact.Sound(s, put); e != api.OK {
				t.Errorf("P12.1: New(%d) of %d: %d", channel, put, e)
			}
		}
	}
}

// full is a state in which no field is zero.
func full() api.State {
	return state(7, [2]uint64{1, 2}, [2]uint64{3, 4}, cond(5, api.Left, 6), cond(7, api.Right, 8))
}

// turnings turn each field of a full state.
func turnings() map[string]func(*api.State) {
	return map[string]func(*api.State){
		"Channel":        func(s *api.State) { s.Channel++ },
		"Round":          func(s *api.State) { s.Round += 1 << 40 },
		"Moved of Left":  func(s *api.State) { s.Moved[0]-- },
		"Moved of Right": func(s *api.State) { s.Moved[1] += half },
		"Taken of Left":  func(s *api.State) { s.Taken[0] += 1 << 32 },
		"Taken of Right": func(s *api.State) { s.Taken[1]++ },
		"sides":          func(s *api.State) { s.Moved = [2]uint64{2, 1} },
		"none":           func(s *api.State) { s.Conds = nil },
		"one less":       func(s *api.State) { s.Conds = s.Conds[:1] },
		"one more":       func(s *api.State) { s.Conds = append(s.Conds, cond(9, api.Left, 1)) },
		"a zero one":     func(s *api.State) { s.Conds = append(s.Conds, api.Cond{}) },
		"order":          func(s *api.State) { s.Conds[0], s.Conds[1] = s.Conds[1], s.Conds[0] },
		"Id":             func(s *api.State) { s.Conds[0].Id += half },
		"By":             func(s *api.State) { s.Conds[1].By = api.Left },
		"Amount":         func(s *api.State) { s.Conds[1].Amount += 1 << 32 },
		"Hash":           func(s *api.State) { s.Conds[0].Hash[31]++ },
		"Hash, first":    func(s *api.State) { s.Conds[1].Hash[0] ^= 128 },
		"Expiry":         func(s *api.State) { s.Conds[1].Expiry-- },
	}
}

// P12.1: states are the same, if all is.
func TestSame(t *testing.T) {
	for _, s := range []api.State{{}, full(), pact.New(3), state(201, [2]uint64{top, top}, [2]uint64{}, cond(1, -1, 0), cond(1, 2, top))} {
		if !pact.Same(s, twin(s)) || !pact.Same(s, s) {
			t.Errorf("P12.1: Same: %v isn't itself", s)
		}
	}
	empty := pact.New(3)
	empty.Conds = []api.Cond{}
	if !pact.Same(empty, pact.New(3)) || !pact.Same(pact.New(3), empty) {
		t.Error("R4: a state without payments isn't itself")
	}
	for name, turn := range turnings() {
		turned := full()
		turn(&turned)
		if pact.Same(full(), turned) || pact.Same(turned, full()) {
			t.Errorf("P12.1: Same in spite of %s", name)
		}
	}
}

// P12.1, R3: a twin is alike, and neither turns with the other one.
func TestTwin(t *testing.T) {
	many := state(9, [2]uint64{}, [2]uint64{}, alike(100, 5, 0)...)
	for _, s := range []api.State{{}, pact.New(3), full(), many} {
		if got := pact.Twin(s); !same(got, s) {
			t.Errorf("P12.1: Twin: %v, want %v", got, s)
		}
	}
	for name, turn := range turnings() {
		s := full()
		x := pact.Twin(s)
		turn(&x)
		if !same(s, full()) {
			t.Errorf("R3: %s of a twin was turned, and the state with it", name)
		}
		x = pact.Twin(s)
		turn(&s)
		if !same(x, full()) {
			t.Errorf("R3: %s of a state was turned, and its twin with it", name)
		}
	}
}

// P12.1, R3: neither the room behind the payments is a twin's, nor a twin's own room anyone else's.
func TestTwinRoom(t *testing.T) {
	for n := range 3 {
		room := []api.Cond{cond(1, 0, 1), cond(2, 1, 2), cond(3, 0, 3)}
		want := slices.Clone(room)
		s := state(1, [2]uint64{}, [2]uint64{}, room[:n]...)
		a, b := pact.Twin(s), pact.Twin(s)
		clear(a.Conds[:cap(a.Conds)])
		if !slices.Equal(room, want) || !slices.Equal(b.Conds, want[:n]) {
			t.Errorf("R3: twins of %d payments share memory", n)
		}
		_ = append(b.Conds, cond(9, 1, 9))
		if !slices.Equal(room, want) {
			t.Errorf("R3: what was laid behind a twin's %d payments is in the state's room", n)
		}
	}
}

// P12.1.
func TestFind(t *testing.T) {
	s := state(1, [2]uint64{}, [2]uint64{}, cond(5, 0, 1), cond(0, 1, 1), cond(top, 7, 0), cond(5, 1, 2), cond(9, -3, 1), cond(9, 0, 1))
	for _, c := range []struct {
		id   uint64
		want int
	}{
		{5, 0}, {0, 1}, {top, 2}, {9, 4}, {1, -1}, {4, -1}, {6, -1}, {1<<32 + 5, -1}, {top - 1, -1}, {half, -1},
	} {
		if got := pact.Find(s, c.id); got != c.want {
			t.Errorf("P12.1: Find(%d): %d, want %d", c.id, got, c.want)
		}
	}
	for _, id := range []uint64{0, 1, top} {
		if got := pact.Find(pact.New(3), id); got != -1 {
			t.Errorf("P12.1: Find(%d) of a new state: %d", id, got)
		}
	}
	if got := pact.Find(state(1, [2]uint64{}, [2]uint64{}, alike(3000, 0, 1)...), 2999); got != 2998 {
		t.Errorf("P12.1: Find of many: %d", got)
	}
}

// P12.1: what pending payments by any number come to.
func TestHeld(t *testing.T) {
	for _, c := range []struct {
		name string
		l    []api.Cond
		side api.Side
		want uint64
		e    api.Errno
	}{
		{"none", nil, 0, 0, api.OK},
		{"none of no side", nil, -1, 0, api.OK},
		{"Left's", []api.Cond{cond(1, 0, 5), cond(2, 1, 7), cond(3, 0, 1)}, api.Left, 6, api.OK},
		{"Right's", []api.Cond{cond(1, 0, 5), cond(2, 1, 7), cond(3, 0, 1)}, api.Right, 7, api.OK},
		{"no side's", []api.Cond{cond(1, 0, 5), cond(2, 1, 7)}, 2, 0, api.OK},
		{"by 2", []api.Cond{cond(1, 2, 5), cond(2, 1, 7), cond(3, 2, 4)}, 2, 9, api.OK},
		{"by -1", []api.Cond{cond(1, -1, 5), cond(2, 255, 7)}, -1, 5, api.OK},
		{"by the lowest", []api.Cond{cond(1, math.MinInt, 5), cond(2, 0, 7)}, math.MinInt, 5, api.OK},
		{"by 256, not 0", []api.Cond{cond(1, 256, 5), cond(2, 1<<32, 7)}, 0, 0, api.OK},
		{"of nothing", []api.Cond{cond(1, 0, 0), cond(2, 0, 0)}, 0, 0, api.OK},
		{"of one Id", []api.Cond{cond(1, 0, 3), cond(1, 0, 4)}, 0, 7, api.OK},
		{"the most", []api.Cond{cond(1, 1, top)}, 1, top, api.OK},
		{"the most by two", []api.Cond{cond(1, 1, top-1), cond(2, 1, 1)}, 1, top, api.OK},
		{"one above", []api.Cond{cond(1, 1, top), cond(2, 1, 1)}, 1, 0, api.ErrOver},
		{"one above, the other way", []api.Cond{cond(1, 1, 1), cond(2, 1, top)}, 1, 0, api.ErrOver},
		{"one above by three", []api.Cond{cond(1, 0, half), cond(2, 0, half-1), cond(3, 0, 1)}, 0, 0, api.ErrOver},
		{"gone round to little", []api.Cond{cond(1, 0, top), cond(2, 0, top), cond(3, 0, 5)}, 0, 0, api.ErrOver},
		{"gone round, by no side", []api.Cond{cond(1, 9, half), cond(2, 9, half)}, 9, 0, api.ErrOver},
		{"the other side's goes round", []api.Cond{cond(1, 1, top), cond(2, 1, top), cond(3, 0, 5)}, 0, 5, api.OK},
		{"both sides' together go round", []api.Cond{cond(1, 1, top), cond(2, 0, top)}, 0, top, api.OK},
		{"more than 8", alike(300, 1, 2), 1, 600, api.OK},
	} {
		s := state(1, [2]uint64{top, top}, [2]uint64{top, top}, c.l...)
		if got, e := pact.Held(s, c.side); got != c.want || e != c.e {
			t.Errorf("P12.1: Held, %s: %d, %d; want %d, %d", c.name, got, e, c.want, c.e)
		}
	}
}

// P12.1: what a side has free, at the ends of the numbers, on each side.
func TestFree(t *testing.T) {
	// What is told of Left and Right is told of Right and Left, too.
	for _, c := range []struct {
		name       string
		put, moved [2]uint64
		taken      [2]uint64
		held       []uint64 // the side's own
		others     []uint64
		want       uint64
		e          api.Errno
	}{
		{name: "nothing", want: 0},
		{name: "what was put in", put: [2]uint64{10, 7}, want: 10},
		{name: "the other side moved", put: [2]uint64{10, 7}, moved: [2]uint64{0, 4}, want: 14},
		{name: "all", put: [2]uint64{10, 7}, moved: [2]uint64{3, 4}, taken: [2]uint64{2, 1}, held: []uint64{5}, others: []uint64{6}, want: 4},
		{name: "the other side's don't count", put: [2]uint64{10, 0}, taken: [2]uint64{0, top}, others: []uint64{top, top}, want: 10},
		{name: "moved all", put: [2]uint64{10, 0}, moved: [2]uint64{10, 0}, want: 0},
		{name: "moved one more", put: [2]uint64{10, 0}, moved: [2]uint64{11, 0}, e: api.ErrUnder},
		{name: "taken all", put: [2]uint64{10, 0}, taken: [2]uint64{10, 0}, want: 0},
		{name: "taken one more", put: [2]uint64{10, 0}, taken: [2]uint64{11, 0}, e: api.ErrUnder},
		{name: "held all", put: [2]uint64{10, 0}, held: []uint64{4, 6}, want: 0},
		{name: "held one more", put: [2]uint64{10, 0}, held: []uint64{4, 7}, e: api.ErrUnder},
		{name: "all of it by three", put: [2]uint64{10, 0}, moved: [2]uint64{3, 0}, taken: [2]uint64{3, 0}, held: []uint64{4}, want: 0},
		{name: "one more by three", put: [2]uint64{10, 0}, moved: [2]uint64{3, 0}, taken: [2]uint64{4, 0}, held: []uint64{4}, e: api.ErrUnder},
		{name: "without anything", moved: [2]uint64{1, 0}, e: api.ErrUnder},
		{name: "the most", put: [2]uint64{top, top}, want: top},
		{name: "the most moved", moved: [2]uint64{0, top}, want: top},
		{name: "the most by two", put: [2]uint64{top - 1, 0}, moved: [2]uint64{0, 1}, want: top},
		{name: "one above", put: [2]uint64{top, 0}, moved: [2]uint64{0, 1}, e: api.ErrOver},
		{name: "one above, the other way", put: [2]uint64{1, 0}, moved: [2]uint64{0, top}, e: api.ErrOver},
		{name: "one above, though less is free", put: [2]uint64{top, 0}, moved: [2]uint64{5, 1}, e: api.ErrOver},
		{name: "gone round to enough", put: [2]uint64{top, 0}, moved: [2]uint64{3, top}, e: api.ErrOver},
		{name: "the most, less the most", put: [2]uint64{top, 0}, moved: [2]uint64{top, 0}, want: 0},
		{name: "below, gone round together", put: [2]uint64{10, 0}, moved: [2]uint64{top, 0}, taken: [2]uint64{1, 0}, e: api.ErrUnder},
		{name: "below, gone round by halves", put: [2]uint64{10, 0}, moved: [2]uint64{half, 0}, taken: [2]uint64{half, 0}, e: api.ErrUnder},
		{name: "held goes round", put: [2]uint64{top, 0}, held: []uint64{top, 1}, e: api.ErrOver},
		{name: "held goes round ahead of below", moved: [2]uint64{1, 0}, held: []uint64{half, half}, e: api.ErrOver},
		{name: "over ahead of below", put: [2]uint64{top, 0}, moved: [2]uint64{top, 1}, taken: [2]uint64{top, 0}, e: api.ErrOver},
	} {
		for side := range api.Side(2) {
			other := 1 - side
			turn := func(pair [2]uint64) [2]uint64 {
				var p [2]uint64
				p[side], p[other] = pair[0], pair[1]
				return p
			}
			s := state(1, turn(c.moved), turn(c.taken))
			for i, a := range c.others {
				s.Conds = append(s.Conds, cond(uint64(50+i), other, a))
			}
			for i, a := range c.held {
				s.Conds = append(s.Conds, cond(uint64(i), side, a))
			}
			if got, e := pact.Free(s, turn(c.put), side); got != c.want || e != c.e {
				t.Errorf("P12.1: Free of %d, %s: %d, %d; want %d, %d", side, c.name, got, e, c.want, c.e)
			}
		}
	}
}

// P12.1: Free of what is no side, ahead of all else.
func TestFreeNoSide(t *testing.T) {
	for _, side := range farSides {
		for _, s := range []api.State{pact.New(3), full(), state(1, [2]uint64{1, top}, [2]uint64{}, cond(1, side, top), cond(2, side, top))} {
			if got, e := pact.Free(s, [2]uint64{top, 0}, side); got != 0 || e != api.ErrArg {
				t.Errorf("P12.1: Free of %d: %d, %d", side, got, e)
			}
		}
	}
}

// P12.1: Free is told of states that may not be, too: of rounds, payments and Ids nothing is asked.
func TestFreeOfAnyState(t *testing.T) {
	s := state(top, [2]uint64{}, [2]uint64{}, append(alike(9, api.Left, 1), cond(1, api.Left, 0), cond(1, 5, top), cond(2, 5, top))...)
	if got, e := pact.Free(s, [2]uint64{10, 0}, api.Left); got != 1 || e != api.OK {
		t.Errorf("P12.1: Free: %d, %d; want 1, 0", got, e)
	}
}

// P12.1: which states may be.
func TestSound(t *testing.T) {
	put := [2]uint64{100, 100}
	none := [2]uint64{}
	for _, c := range []struct {
		name string
		s    api.State
		put  [2]uint64
		want api.Errno
	}{
		{"a new one", pact.New(3), none, api.OK},
		{"the round 1", state(1, none, none), none, api.OK},
		{"the round 199", state(199, none, none), none, api.OK},
		{"the round 200", state(200, none, none), none, api.OK},
		{"the round 201", state(201, none, none), none, api.ErrLimit},
		{"the round 256", state(256, none, none), none, api.ErrLimit},
		{"a round whose lowest bytes are 0", state(1<<32, none, none), none, api.ErrLimit},
		{"the last round", state(top, none, none), none, api.ErrLimit},
		{"8 payments", state(1, none, none, alike(8, 1, 12)...), put, api.OK},
		{"9 payments", state(1, none, none, alike(9, 1, 1)...), put, api.ErrLimit},
		{"256 payments", state(1, none, none, alike(256, 1, 1)...), [2]uint64{0, 256}, api.ErrLimit},
		{"9 payments, none of which may be", state(1, none, none, make([]api.Cond, 9)...), put, api.ErrLimit},
		{"a payment by -1", state(1, none, none, cond(1, -1, 1)), put, api.ErrArg},
		{"a payment by 2", state(1, none, none, cond(1, 2, 1)), put, api.ErrArg},
		{"a payment by 256", state(1, none, none, cond(1, 256, 1)), put, api.ErrArg},
		{"a payment by the least number", state(1, none, none, cond(1, math.MinInt, 1)), put, api.ErrArg},
		{"a payment of 0", state(1, none, none, cond(1, 0, 0)), put, api.ErrArg},
		{"an Id of 0", state(1, none, none, cond(0, 0, 1)), put, api.OK},
		{"two of one Id", state(1, none, none, cond(4, 0, 1), cond(4, 1, 2)), put, api.ErrTwice},
		{"two of one Id, and one by no side ahead", state(1, none, none, cond(4, 0, 1), cond(5, 2, 1), cond(4, 1, 2)), put, api.ErrArg},
		{"two of one Id, and one by no side behind", state(1, none, none, cond(4, 0, 1), cond(4, 1, 2), cond(5, 2, 1)), put, api.ErrTwice},
		{"the second one of one Id, of 0", state(1, none, none, cond(4, 0, 1), cond(4, 1, 0)), put, api.ErrArg},
		{"two of one Id, the first one of 0", state(1, none, none, cond(4, 0, 0), cond(4, 1, 1)), put, api.ErrArg},
		{"a payment that isn't right ahead of nothing free", state(1, [2]uint64{101, 0}, none, cond(1, 2, 1)), put, api.ErrArg},
		{"one Id ahead of too much", state(1, none, none, cond(4, 0, top), cond(4, 0, top)), put, api.ErrTwice},
		{"a round ahead of a payment", state(201, none, none, cond(1, 2, 1)), put, api.ErrLimit},
		{"Left has nothing free", state(1, [2]uint64{90, 0}, [2]uint64{4, 0}, cond(1, 0, 6)), put, api.OK},
		{"Left has less", state(1, [2]uint64{90, 0}, [2]uint64{5, 0}, cond(1, 0, 6)), put, api.ErrUnder},
		{"Right has nothing free", state(1, [2]uint64{0, 90}, [2]uint64{0, 4}, cond(1, 1, 6)), put, api.OK},
		{"Right has less", state(1, [2]uint64{0, 90}, [2]uint64{0, 4}, cond(1, 1, 7)), put, api.ErrUnder},
		{"Left is below, Right above", state(1, [2]uint64{1, 0}, none, cond(1, 1, top), cond(2, 1, top)), none, api.ErrUnder},
		{"Left is above, Right below", state(1, [2]uint64{0, 1}, none, cond(1, 0, top), cond(2, 0, top)), none, api.ErrOver},
		{"Left's sum goes round", state(1, [2]uint64{0, 1}, none), [2]uint64{top, 1}, api.ErrOver},
		{"Right's sum goes round", state(1, [2]uint64{1, 0}, none), [2]uint64{1, top}, api.ErrOver},
		{"both put the most", state(1, none, none), [2]uint64{top, top}, api.OK},
		{"both moved the most", state(1, [2]uint64{top, top}, none), none, api.OK},
		{"what Left holds goes round", state(1, none, none, cond(1, 0, half), cond(2, 0, half)), put, api.ErrOver},
		{"what Right holds goes round", state(1, none, none, cond(1, 1, half), cond(2, 1, half)), put, api.ErrOver},
		{"both hold the most", state(1, none, none, cond(1, 1, top), cond(2, 0, top)), [2]uint64{top, top}, api.OK},
	} {
		if got := pact.Sound(c.s, c.put); got != c.want {
			t.Errorf("P12.1: Sound, %s: %d, want %d", c.name, got, c.want)
		}
	}
}

// P12.1: a payment that may not be, at each place.
func TestSoundPlaces(t *testing.T) {
	put := [2]uint64{100, 100}
	for many := 1; many <= 8; many++ {
		for place := range many {
			for name, turn := range map[string]func(*api.Cond){
				"by -1": func(c *api.Cond) { c.By = -1 },
				"by 2":  func(c *api.Cond) { c.By = 2 },
				"of 0":  func(c *api.Cond) { c.Amount = 0 },
			} {
				s := state(1, [2]uint64{}, [2]uint64{}, alike(many, 1, 1)...)
				turn(&s.Conds[place])
				if e := pact.Sound(s, put); e != api.ErrArg {
					t.Errorf("P12.1: %s at %d of %d: %d", name, place, many, e)
				}
			}
			for other := range many {
				s := state(1, [2]uint64{}, [2]uint64{}, alike(many, 0, 1)...)
				s.Conds[place].Id = s.Conds[other].Id
				want := api.ErrTwice
				if place == other {
					want = api.OK
				}
				if e := pact.Sound(s, put); e != want {
					t.Errorf("P12.1: the Ids at %d and %d of %d: %d, want %d", place, other, many, e, want)
				}
			}
		}
	}
}
