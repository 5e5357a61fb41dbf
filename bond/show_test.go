package bond_test

import (
	"slices"
	"testing"

	"tollhouse/api"
	"tollhouse/bond"
	"tollhouse/deed"
	"tollhouse/ring"
)

// paidOut is a bond of 30 and 40 whose Best is of the round 4, with 2 and 3 taken and paid; and that deed.
func paidOut(t *testing.T, rule ...byte) (bond.Bond, deed.Deed) {
	t.Helper()
	d := signed(t, state(4, [2]uint64{5, 1}, [2]uint64{2, 3}, cond(1, 0, 6, 20)))
	return done(t, bondOf(t, [2]uint64{30, 40}, rule...), draw(api.Left, d), draw(api.Right, d)), d
}

// withBest is a bond alike but for its Best.
func withBest(b bond.Bond, s api.State) bond.Bond {
	b = twin(b)
	b.Best = s
	return b
}

// P14.2: what a side has taken is paid once, whichever deed is shown then.
func TestDraw(t *testing.T) {
	b := bondOf(t, [2]uint64{30, 40})
	first := deed.First(id)
	wantError(t, "P14.2: Draw of nothing, by Left", b, draw(api.Left, first), api.ErrNone)
	wantError(t, "P14.2: Draw of nothing, by Right", b, draw(api.Right, first), api.ErrNone)

	d := taking(t, 4, 2, 3)
	next := withBest(b, d.State)
	next.Paid[0] = 2
	want(t, "P14.2: Draw by Left", b, draw(api.Left, d), result{b: next, paid: [2]uint64{2, 0}})
	other := withBest(b, d.State)
	other.Paid[1] = 3
	want(t, "P14.2: Draw by Right", b, draw(api.Right, d), result{b: other, paid: [2]uint64{0, 3}})

	for _, again := range []deed.Deed{d, first, taking(t, 3, 9, 9), taking(t, 4, 9, 9), taking(t, 5, 2, 3)} {
		wantError(t, "P14.2: Draw again", next, draw(api.Left, again), api.ErrNone)
	}
	// What Best has counts, also if an older deed is shown.
	both := twin(next)
	both.Paid[1] = 3
	for _, old := range []deed.Deed{d, first, taking(t, 3, 9, 9), taking(t, 4, 9, 9)} {
		want(t, "P14.2: Draw by Right behind Left's", next, draw(api.Right, old), result{b: both, paid: [2]uint64{0, 3}})
	}
	newer := taking(t, 6, 12, 3)
	last := withBest(both, newer.State)
	last.Paid[0] = 12
	want(t, "P14.2: Draw of what is newly taken", both, draw(api.Left, newer), result{b: last, paid: [2]uint64{10, 0}})
	wantError(t, "P14.2: Draw of nothing newly taken", both, draw(api.Right, newer), api.ErrNone)
	if last.Locked() != 55 {
		t.Errorf("P14.1: Locked: %d", last.Locked())
	}
}

// P14.2: Draw up to the end of the numbers, and of all that there is.
func TestDrawAll(t *testing.T) {
	for side := range api.Side(2) {
		var put [2]uint64
		put[side] = top
		b := bondOf(t, put)
		part := done(t, b, draw(side, signed(t, state(1, [2]uint64{}, [2]uint64{0: put[0] / 2, 1: put[1] / 2}))))
		if part.Paid[side] != top/2 || part.Locked() != top-top/2 {
			t.Errorf("P14.2: Draw of the half: %d", part.Paid)
		}
		got := run(t, part, draw(side, signed(t, state(2, [2]uint64{}, put))))
		if got.e != api.OK || got.paid[side] != top-top/2 || got.b.Paid != put || got.b.Locked() != 0 {
			t.Errorf("P14.2: Draw of all: %v", got)
		}
	}
	// One side's money that the other one has taken.
	b := bondOf(t, [2]uint64{10, 0})
	d := signed(t, state(1, [2]uint64{10, 0}, [2]uint64{0, 10}))
	if got := run(t, b, draw(api.Right, d)); got.e != api.OK || got.paid != [2]uint64{0, 10} || got.b.Locked() != 0 {
		t.Errorf("P14.2: Draw of what was moved: %v", got)
	}
}

// P14.2: each call that takes a deed in, in each phase.
func TestPhases(t *testing.T) {
	l := eachPhase(t)
	d := signed(t, state(9, [2]uint64{5, 1}, [2]uint64{4, 3}, cond(2, 1, 7, 20)))
	for name, b := range l {
		behind := withBest(b, d.State)
		drawn, fought := twin(behind), twin(behind)
		drawn.Paid[0] = 4
		fought.Phase, fought.Until = bond.Fought, 18
		switch name {
		case "Live":
			want(t, "P14.2: Draw of one that is Live", b, draw(api.Left, d), result{b: drawn, paid: [2]uint64{2, 0}})
			want(t, "P14.2: Fight of one that is Live", b, fight(d, 12), result{b: fought})
			wantError(t, "P14.2: Show of one that is Live", b, show(d, 12), api.ErrState)
		case "Fought":
			want(t, "P14.2: Draw of one that is Fought", b, draw(api.Left, d), result{b: drawn, paid: [2]uint64{2, 0}})
			wantError(t, "P14.2: Fight of one that is Fought", b, fight(d, 12), api.ErrState)
			want(t, "P14.2: Show of one that is Fought", b, show(d, 12), result{b: behind})
		case "Shut":
			wantError(t, "P14.2: Draw of one that is Shut", b, draw(api.Left, d), api.ErrClosed)
			wantError(t, "P14.2: Fight of one that is Shut", b, fight(d, 12), api.ErrClosed)
			wantError(t, "P14.2: Show of one that is Shut", b, show(d, 12), api.ErrClosed)
		}
	}
}

// taker is a call that takes a deed in, of a bond that is in a phase in which it may.
type taker struct {
	name string
	b    bond.Bond
	do   func(d deed.Deed) act
}

// takers are all of them, of a bond that is Live.
func takers(t *testing.T, live bond.Bond) []taker {
	t.Helper()
	fought := done(t, live, fight(deed.First(id), 10))
	left := func(d deed.Deed) act { return draw(api.Left, d) }
	right := func(d deed.Deed) act { return draw(api.Right, d) }
	begin := func(d deed.Deed) act { return fight(d, 10) }
	shown := func(d deed.Deed) act { return show(d, 12) }
	return []taker{{"Draw by Left", live, left}, {"Draw by Right", live, right}, {"Fight", live, begin}, {"Draw by Left, Fought", fought, left}, {"Draw by Right, Fought", fought, right}, {"Show", fought, shown}}
}

// wantTaken: each call takes the deed in; a Draw may find that nothing is to be paid.
func wantTaken(t *testing.T, name string, live bond.Bond, d deed.Deed) {
	t.Helper()
	for _, c := range takers(t, live) {
		got := run(t, c.b, c.do(d))
		if got.e == api.ErrNone && c.name != "Show" && c.name != "Fight" {
			continue
		}
		if got.e != api.OK || !sameState(got.b.Best, d.State) {
			t.Errorf("P14.2: %s, %s: %v", c.name, name, got)
		}
	}
}

func wantRefused(t *testing.T, name string, live bond.Bond, d deed.Deed, e api.Errno) {
	t.Helper()
	for _, c := range takers(t, live) {
		wantError(t, "P14.2: "+c.name+", "+name, c.b, c.do(d), e)
	}
}

// P14.2: deeds that aren't right for the bond.
func TestNotRight(t *testing.T) {
	b, _ := paidOut(t)
	s := state(9, [2]uint64{}, [2]uint64{5, 6})
	d := signed(t, s)
	wantTaken(t, "a right deed", b, d)

	far := s
	far.Channel = id + 1
	wantRefused(t, "another channel's", b, signed(t, far), api.ErrSign)
	wantRefused(t, "another channel's first one", b, deed.First(id+1), api.ErrSign)
	wantRefused(t, "no deed", b, deed.Deed{}, api.ErrSign)
	wantRefused(t, "unsigned", b, deed.Deed{State: s}, api.ErrSign)
	for side := range 2 {
		x := d.Twin()
		x.Sigs[side] = ring.Sig{}
		wantRefused(t, "signed by one side", b, x, api.ErrSign)
		x.Sigs[side] = d.Sigs[1-side]
		wantRefused(t, "signed by one side twice", b, x, api.ErrSign)
		x = d.Twin()
		x.Taken[side]++
		wantRefused(t, "turned", b, x, api.ErrSign)
	}
	x := deed.First(id)
	x.Moved[0] = 1
	wantRefused(t, "of the round 0, not new", b, x, api.ErrSign)

	// With other roots the first deed alone is right.
	for _, k := range []deed.Roots{{}, {Of: roots().Of, Tall: 7}, {Of: [2]api.Digest{roots().Of[1], roots().Of[0]}, Tall: 8}} {
		other := twin(b)
		other.Roots = k
		wantRefused(t, "with other roots", other, d, api.ErrSign)
		if got := run(t, other, fight(deed.First(id), 10)); got.e != api.OK {
			t.Errorf("P14.2: the first deed, with other roots: %d", got.e)
		}
	}
}

// P14.2: deeds whose states may not be, of what is put in.
func TestNotSound(t *testing.T) {
	b, _ := paidOut(t)
	none, taken := [2]uint64{}, [2]uint64{2, 3}
	many := make([]api.Cond, 9)
	for i := range many {
		many[i] = cond(uint64(i), 0, 1, 20)
	}
	for _, c := range []struct {
		name string
		s    api.State
		want api.Errno
	}{
		{"a round of 201", state(201, none, taken), api.ErrLimit},
		{"a round of 255", state(255, none, taken), api.ErrLimit},
		{"9 payments", state(9, none, taken, many...), api.ErrLimit},
		{"a payment by no side", state(9, none, taken, cond(1, 2, 1, 20)), api.ErrArg},
		{"a payment of 0", state(9, none, taken, cond(1, 0, 0, 20)), api.ErrArg},
		{"one Id twice", state(9, none, taken, cond(1, 0, 1, 20), cond(1, 1, 1, 20)), api.ErrTwice},
		{"more than Left has", state(9, [2]uint64{29, 0}, taken), api.ErrUnder},
		{"more than Right has", state(9, none, [2]uint64{2, 41}), api.ErrUnder},
		{"more held than Left has", state(9, none, taken, cond(1, 0, 29, 20)), api.ErrUnder},
		{"more than Left has, ahead of above the end of the numbers, on Right", state(9, [2]uint64{top - 39, 0}, taken), api.ErrUnder},
		{"above the end of the numbers, on Right", state(9, [2]uint64{top - 39, top - 60}, taken), api.ErrOver},
		{"above the end of the numbers, on Left", state(9, [2]uint64{0, top - 29}, taken), api.ErrOver},
		{"of an older round, one Id twice", state(3, none, taken, cond(1, 0, 1, 20), cond(1, 1, 1, 20)), api.ErrTwice},
		{"of the same round, a payment of 0", state(4, none, taken, cond(1, 0, 0, 20)), api.ErrArg},
		{"of the round 0, signed, more than Right has", state(0, none, [2]uint64{0, 41}), api.ErrUnder},
		{"one Id twice, ahead of less than was paid", state(9, none, none, cond(1, 0, 1, 20), cond(1, 1, 1, 20)), api.ErrTwice},
		{"a round of 201, ahead of less than was paid", state(201, none, none), api.ErrLimit},
		{"above, ahead of less than was paid", state(9, [2]uint64{0, top - 29}, none), api.ErrOver},
	} {
		wantRefused(t, c.name, b, signed(t, c.s), c.want)
		wantRefused(t, c.name+", unsigned", b, deed.Deed{State: c.s}, api.ErrSign)
		wantError(t, "P14.2: Draw of one that is Shut", shut(t, b), draw(api.Left, signed(t, c.s)), api.ErrClosed)
	}
	wantTaken(t, "a round of 200", b, signed(t, state(200, none, [2]uint64{3, 4}, many[:8]...)))
}

// P14.2: it is what is put in now that a state must be of, not less what was paid.
func TestSoundOfWhatIsPut(t *testing.T) {
	b, _ := paidOut(t)
	all := signed(t, state(9, [2]uint64{5, 0}, [2]uint64{25, 45}))
	wantTaken(t, "all of it taken", b, all)
	above := signed(t, state(9, [2]uint64{5, 0}, [2]uint64{26, 45}))
	wantRefused(t, "one above taken", b, above, api.ErrUnder)
	wantTaken(t, "one above taken, with more put in", done(t, b, more(api.Left, 1)), above)
	wantRefused(t, "one above taken, with more put in by the other side", done(t, b, more(api.Right, 1)), above, api.ErrUnder)

	// More put in can make a state one that may not be.
	far := signed(t, state(9, [2]uint64{top - 70, top - 70}, [2]uint64{5, 6}))
	wantTaken(t, "far moved", b, far)
	wantRefused(t, "far moved, with more put in", done(t, b, more(api.Right, 31)), far, api.ErrOver)
	fought := done(t, b, fight(deed.First(id), 10), more(api.Left, 1))
	want(t, "P14.2: Show, with more put in behind Fight", fought, show(above, 12), result{b: withBest(fought, above.State)})
}

// P14.2: a newer deed's Taken isn't less than what was paid, on either side; an older one's may be.
func TestLessThanPaid(t *testing.T) {
	b, _ := paidOut(t)
	for _, c := range []struct {
		taken [2]uint64
		want  api.Errno
	}{
		{[2]uint64{0, 0}, api.ErrUnder}, {[2]uint64{1, 3}, api.ErrUnder}, {[2]uint64{2, 2}, api.ErrUnder}, {[2]uint64{1, 2}, api.ErrUnder},
		{[2]uint64{20, 2}, api.ErrUnder}, {[2]uint64{1, 30}, api.ErrUnder}, {[2]uint64{3, 2}, api.ErrUnder},
		{[2]uint64{2, 3}, api.OK}, {[2]uint64{3, 3}, api.OK}, {[2]uint64{2, 4}, api.OK}, {[2]uint64{30, 40}, api.OK},
	} {
		newer := taking(t, 5, c.taken[0], c.taken[1])
		if c.want == api.OK {
			wantTaken(t, "as much taken as was paid, or more", b, newer)
		} else {
			wantRefused(t, "less taken than was paid", b, newer, c.want)
		}
		for _, round := range []uint64{4, 3, 1} {
			old := taking(t, round, c.taken[0], c.taken[1])
			wantError(t, "P14.2: Draw by an older deed", b, draw(api.Left, old), api.ErrNone)
			fought := twin(b)
			fought.Phase, fought.Until = bond.Fought, 15
			want(t, "P14.2: Fight by an older deed", b, fight(old, 10), result{b: fought})
			wantError(t, "P14.2: Show of an older deed", fought, show(old, 10), api.ErrRound)
		}
	}
	// What one side has taken and wasn't paid yet may fall.
	half := done(t, bondOf(t, [2]uint64{30, 40}), draw(api.Left, taking(t, 4, 2, 3)))
	wantTaken(t, "less taken than before, not than paid", half, taking(t, 5, 3, 0))
	wantRefused(t, "less taken than was paid to Left", half, taking(t, 5, 1, 3), api.ErrUnder)
}

// P14.2: of one round the state that was shown first stays.
func TestSameRound(t *testing.T) {
	b, d := paidOut(t)
	other := taking(t, 4, 9, 9)
	fought := done(t, b, fight(other, 10))
	if !sameState(fought.Best, d.State) {
		t.Errorf("P14.2: Best behind another one of its round: %v", fought.Best)
	}
	wantError(t, "P14.2: Show of the same round", fought, show(other, 12), api.ErrRound)
	wantError(t, "P14.2: Show of the same deed", fought, show(d, 12), api.ErrRound)
	wantError(t, "P14.2: Show of the first deed", fought, show(deed.First(id), 12), api.ErrRound)
	zero := signed(t, state(0, [2]uint64{}, [2]uint64{4, 4}))
	wantError(t, "P14.2: Draw by a signed one of the round 0", bondOf(t, [2]uint64{9, 9}), draw(api.Left, zero), api.ErrNone)
}

// P14.2: which error is told ahead of a deed's.
func TestErrorsAhead(t *testing.T) {
	l := eachPhase(t)
	wrong := deed.Deed{State: state(9, [2]uint64{}, [2]uint64{})}
	less := taking(t, 9, 0, 0)
	for name, b := range l {
		for _, side := range farSides {
			wantError(t, "P14.2: Draw by no side of one that is "+name, b, draw(side, wrong), api.ErrArg)
			wantError(t, "P14.2: Draw by no side of one that is "+name, b, draw(side, taking(t, 9, 5, 5)), api.ErrArg)
		}
	}
	for _, height := range []uint64{0, 12, 16, top} {
		for _, d := range []deed.Deed{wrong, less, deed.First(id)} {
			wantError(t, "P14.2: Fight of one that is Fought", l["Fought"], fight(d, height), api.ErrState)
			wantError(t, "P14.2: Show of one that is Live", l["Live"], show(d, height), api.ErrState)
			wantError(t, "P14.2: Fight of one that is Shut", l["Shut"], fight(d, height), api.ErrClosed)
			wantError(t, "P14.2: Show of one that is Shut", l["Shut"], show(d, height), api.ErrClosed)
		}
		wantError(t, "P14.2: Fight, the deed ahead of the height", l["Live"], fight(wrong, height), api.ErrSign)
		wantError(t, "P14.2: Fight, the deed ahead of the height", l["Live"], fight(less, height), api.ErrUnder)
		wantError(t, "P14.2: Show, the deed ahead of the height", l["Fought"], show(wrong, height), api.ErrSign)
		wantError(t, "P14.2: Show, the deed ahead of the height", l["Fought"], show(less, height), api.ErrUnder)
	}
	wantError(t, "P14.2: Show, late ahead of not newer", l["Fought"], show(deed.First(id), 16), api.ErrLate)
}

// P14.2: how long a dispute waits, by the rule.
func TestWait(t *testing.T) {
	// Without more it costs 198.
	costing := func(more ...string) []string {
		pairs := slices.Repeat([]string{"twice", "drop"}, 98)
		return slices.Concat([]string{"push 7"}, pairs, more, []string{"halt"})
	}
	for _, c := range []struct {
		name  string
		lines []string
		want  uint64
	}{
		{"an empty rule", nil, 5},
		{"0", []string{"push 0", "halt"}, 1},
		{"1", []string{"push 1", "halt"}, 1},
		{"2", []string{"push 2", "halt"}, 2},
		{"5", []string{"push 5", "halt"}, 5},
		{"49", []string{"push 49", "halt"}, 49},
		{"50", []string{"push 50", "halt"}, 50},
		{"51", []string{"push 51", "halt"}, 50},
		{"256", []string{"push 256", "halt"}, 50},
		{"2^32", []string{"push 4294967296", "halt"}, 50},
		{"2^63", []string{"push 9223372036854775808", "halt"}, 50},
		{"the greatest", []string{"push 18446744073709551615", "halt"}, 50},
		{"no halt", []string{"push 9"}, 5},
		{"nothing to take", []string{"halt"}, 5},
		{"below 0", []string{"push 3", "push 4", "sub", "halt"}, 5},
		{"above the end", []string{"push 18446744073709551615", "push 2", "mul", "halt"}, 5},
		{"too many numbers", []string{"push 1", "jump 0"}, 5},
		{"no end", []string{"jump 0"}, 5},
		{"gas of 198", costing(), 7},
		{"gas of 199", costing("twice"), 7},
		{"gas of 200", costing("twice", "drop"), 7},
		{"gas of 201", costing("twice", "drop", "twice"), 5},
		{"gas of 200 ahead of halt", append(slices.Repeat([]string{"now", "drop"}, 100), "halt"), 5},
		{"Left's Put", []string{"load 0", "halt"}, 31},
		{"Right's Put", []string{"load 1", "halt"}, 42},
		{"the Round", []string{"load 2", "halt"}, 4},
		{"the Round, and more", []string{"load 2", "push 10", "add", "halt"}, 14},
		{"no such field", []string{"load 3", "halt"}, 5},
		{"no such field, the last one", []string{"load 255", "halt"}, 5},
		{"a payment's answer", []string{"paid 0", "halt"}, 5},
		{"the last payment's answer", []string{"paid 255", "halt"}, 5},
		{"the height", []string{"now", "halt"}, 1},
		{"the height, and more", []string{"now", "push 30", "add", "halt"}, 30},
	} {
		b, _ := paidOut(t, rule(t, c.lines...)...)
		b = done(t, b, more(api.Left, 1), more(api.Right, 2))
		for _, height := range []uint64{0, 3, 100} {
			fought := twin(b)
			fought.Phase, fought.Until = bond.Fought, height+c.want
			want(t, "P14.2: Fight, by the rule: "+c.name, b, fight(deed.First(id), height), result{b: fought})
		}
	}
}

// P14.2: the rule is asked of the Round behind the deed that is taken in.
func TestWaitByRound(t *testing.T) {
	for _, c := range []struct {
		best, shown, want uint64
	}{
		{0, 0, 1}, {0, 1, 1}, {0, 2, 2}, {0, 9, 9}, {3, 9, 9}, {9, 3, 9}, {9, 9, 9}, {0, 50, 50}, {0, 51, 50}, {0, 200, 50}, {60, 7, 50}, {4, 0, 4},
	} {
		b := bondOf(t, [2]uint64{30, 40}, rule(t, "load 2", "halt")...)
		if c.best > 0 {
			b = done(t, b, draw(api.Left, taking(t, c.best, 1, 0)))
		}
		d := deed.First(id)
		if c.shown > 0 {
			d = taking(t, c.shown, 1, 0)
		}
		got := run(t, b, fight(d, 100))
		if got.e != api.OK || got.b.Until != 100+c.want || got.b.Best.Round != max(c.best, c.shown) {
			t.Errorf("P14.2: Fight of the round %d by %d: %v; want to wait %d", c.best, c.shown, got, c.want)
		}
	}
}

// P14.2: Fight up to the last height beyond which it can't wait.
func TestFightOver(t *testing.T) {
	for _, c := range []struct {
		rule []byte
		wait uint64
	}{
		{nil, 5}, {rule(t, "push 0", "halt"), 1}, {rule(t, "push 20", "halt"), 20}, {rule(t, "push 99", "halt"), 50},
	} {
		b := bondOf(t, [2]uint64{30, 40}, c.rule...)
		d := taking(t, 4, 2, 3)
		for _, height := range []uint64{0, 1, 1 << 30, 1 << 32, 1 << 63, top - c.wait - 1, top - c.wait} {
			fought := withBest(b, d.State)
			fought.Phase, fought.Until = bond.Fought, height+c.wait
			want(t, "P14.2: Fight at any height", b, fight(d, height), result{b: fought})
		}
		for _, height := range []uint64{top - c.wait + 1, top} {
			wantError(t, "P14.2: Fight too high", b, fight(d, height), api.ErrOver)
			wantError(t, "P14.2: Fight too high, by the first deed", b, fight(deed.First(id), height), api.ErrOver)
		}
	}
}

// P14.2: Show is in time below Until, and turns nothing but Best.
func TestShow(t *testing.T) {
	b, _ := paidOut(t)
	d := signed(t, state(9, [2]uint64{1, 2}, [2]uint64{5, 6}, cond(1, 0, 1, 20), cond(2, 1, 1, 20)))
	fought := done(t, b, fight(deed.First(id), 10))
	for _, height := range []uint64{0, 1, 9, 10, 14} {
		want(t, "P14.2: Show in time", fought, show(d, height), result{b: withBest(fought, d.State)})
	}
	for _, height := range []uint64{15, 16, 1 << 32, top - 1, top} {
		wantError(t, "P14.2: Show too late", fought, show(d, height), api.ErrLate)
	}
	shown := done(t, fought, show(d, 14))
	wantError(t, "P14.2: Show again", shown, show(d, 14), api.ErrRound)
	wantError(t, "P14.2: Show of an older one", shown, show(taking(t, 8, 5, 6), 14), api.ErrRound)
	next := taking(t, 10, 5, 6)
	want(t, "P14.2: Show of the next one", shown, show(next, 14), result{b: withBest(shown, next.State)})
	last := taking(t, 200, 5, 6)
	want(t, "P14.2: Show of the last one", shown, show(last, 14), result{b: withBest(shown, last.State)})
	// Until is of its own, whatever is put in, or shown.
	if grown := done(t, shown, more(api.Left, 1)); grown.Until != 15 {
		t.Errorf("P14.4: Until: %d", grown.Until)
	}
}

// P14.2, R3: a deed that is taken in isn't kept, nor turned, nor what lies in the room behind it.
func TestDeedIsNotKept(t *testing.T) {
	live, _ := paidOut(t)
	s := state(9, [2]uint64{}, [2]uint64{5, 6}, cond(1, 0, 1, 20), cond(2, 1, 1, 20))
	for _, c := range takers(t, live) {
		room := append(slices.Clone(s.Conds), cond(8, 0, 8, 8))
		before := slices.Clone(room)
		x := s
		x.Conds = room[:2]
		d := signed(t, x)
		got := run(t, c.b, c.do(d))
		_ = append(got.b.Best.Conds, api.Cond{Id: 99})
		if !slices.Equal(room, before) || !sameState(d.State, s) {
			t.Errorf("R3: %s: the deed was turned", c.name)
		}
		clear(room)
		for side := range d.Sigs {
			clear(d.Sigs[side].Way)
		}
		if !sameState(got.b.Best, s) {
			t.Errorf("R3: %s: Best was turned with the deed: %v", c.name, got.b.Best)
		}
		wipe(got.b)
		if !slices.Equal(room, make([]api.Cond, 3)) {
			t.Errorf("R3: %s: the deed was turned with Best", c.name)
		}
	}
}
