package court_test

import (
	"fmt"
	"math"
	"testing"

	"tollhouse/api"
	"tollhouse/bond"
	"tollhouse/court"
	"tollhouse/deed"
)

// draws: of an image an account is given that out of the bond 0, by its side, of which that state is Best then.
func draws(who int, side api.Side, due uint64, best api.State) func(i *image) {
	return func(i *image) {
		gives(i, who, due)
		i.bonds[0].Paid[side] += due
		i.bonds[0].Best = best
	}
}

// P15.2: Draw gives From what its side has to be paid, and no more.
func TestDraw(t *testing.T) {
	for name, c := range eachPhase(t) {
		if name == "Shut" {
			continue
		}
		b, _ := c.Bond(0)
		refused(t, "P15.2: Draw of what was paid, "+name, c, court.Tx{Kind: court.Draw, From: 1, Deed: signed(t, b.Best)}, api.ErrNone)
		refused(t, "P15.2: Draw of what was paid, "+name, c, court.Tx{Kind: court.Draw, From: 2, Deed: deed.First(0)}, api.ErrNone)
		d := signed(t, state(7, [2]uint64{5, 1}, [2]uint64{9, 4}))
		taken(t, "P15.2: Draw by Left, "+name, c, court.Tx{Kind: court.Draw, From: 1, Deed: d}, draws(1, 0, 7, d.State))
		// An older deed will do as well, then.
		taken(t, "P15.2: Draw by Right, "+name, c, court.Tx{Kind: court.Draw, From: 2, Deed: deed.First(0)}, draws(2, 1, 1, d.State))
		refused(t, "P15.2: Draw once more, "+name, c, court.Tx{Kind: court.Draw, From: 1, Deed: d}, api.ErrNone)
		refused(t, "P15.2: Draw once more, "+name, c, court.Tx{Kind: court.Draw, From: 2, Deed: d}, api.ErrNone)
	}
	// All that a bond holds, also what the other side put in.
	c := bonded(t, 30, 40)
	d := signed(t, state(3, [2]uint64{30, 0}, [2]uint64{0, 70}))
	taken(t, "P15.2: Draw of all", c, court.Tx{Kind: court.Draw, From: 2, Deed: d}, draws(2, 1, 70, d.State))
	if c.Locked() != 0 || c.Kept() != 0 {
		t.Errorf("P15.1: behind a Draw of all: %d, %d", c.Locked(), c.Kept())
	}
}

// fights: of an image the bond 0 is fought now, until so many blocks from now on.
func fights(wait uint64, best api.State) func(i *image) {
	return func(i *image) {
		i.bonds[0].Phase, i.bonds[0].Until, i.bonds[0].Best = bond.Fought, i.height+wait, best
	}
}

// P15.2: Fight begins a dispute, at the block's own height, by either side.
func TestFight(t *testing.T) {
	for from := 1; from <= 2; from++ {
		for blocks := range 3 {
			for _, d := range []deed.Deed{deed.First(0), signed(t, state(5, [2]uint64{1, 2}, [2]uint64{}, cond(1, 0, 6, 9)))} {
				c := bonded(t, 30, 40)
				pass(t, c, blocks)
				taken(t, "P15.2: Fight", c, court.Tx{Kind: court.Fight, From: from, Deed: d}, fights(6, d.State))
				if b, _ := c.Bond(0); b.Until != uint64(blocks)+9 {
					t.Errorf("P15.2: fought at %d, until %d", c.Height(), b.Until)
				}
			}
		}
	}
	// Without a rule, and with one that has an error.
	for _, rule := range [][]byte{nil, rule(t, "push 1", "push 2", "sub", "halt")} {
		c := fresh(t)
		must(t, c, court.Tx{Kind: court.Open, From: 1, To: 2, Rule: rule})
		taken(t, "P15.2: Fight without a rule", c, court.Tx{Kind: court.Fight, From: 2, Deed: deed.First(0)}, fights(5, state(0, [2]uint64{}, [2]uint64{})))
	}
}

// P15.2: Show shows a newer deed, as long as the height is below Until, by either side.
func TestShow(t *testing.T) {
	for from := 1; from <= 2; from++ {
		c := bonded(t, 30, 40)
		must(t, c, court.Tx{Kind: court.Fight, From: 1, Deed: deed.First(0)})
		for round := uint64(1); c.Height() < 8; round++ {
			d := signed(t, state(round, [2]uint64{round, 0}, [2]uint64{}))
			taken(t, "P15.2: Show", c, court.Tx{Kind: court.Show, From: from, Deed: d}, func(i *image) { i.bonds[0].Best = d.State })
			e := api.ErrRound
			if c.Height() == 8 {
				e = api.ErrLate
			}
			refused(t, "P15.2: Show of what is Best", c, court.Tx{Kind: court.Show, From: 3 - from, Deed: d}, e)
		}
		// The height of the next block is Until now, or above it.
		for range 3 {
			refused(t, "P15.2: Show too late", c, court.Tx{Kind: court.Show, From: from, Deed: signed(t, state(100, [2]uint64{}, [2]uint64{}))}, api.ErrLate)
		}
	}
}

// showing are the kinds of orders that show a deed.
var showing = []int{court.Draw, court.Fight, court.Show}

// P15.2: orders of bonds that there aren't, and then those by accounts of no side, whatever else is wrong with them.
func TestNoBondNoSide(t *testing.T) {
	wrong := deed.First(0)
	wrong.Round = 1
	for name, c := range eachPhase(t) {
		for _, kind := range showing {
			for _, d := range []deed.Deed{deed.First(0), deed.First(1), wrong, {}} {
				for _, id := range []uint32{1, 2, 15, 16, 256, 1 << 16, 1 << 31, math.MaxUint32} {
					for from := range taker {
						refused(t, fmt.Sprintf("P15.2: the kind %d of no bond, %s", kind, name), c, court.Tx{Kind: kind, From: from, Bond: id, Deed: d}, api.ErrNone)
					}
					pay(t, c)
				}
				for _, from := range []int{0, 3} {
					refused(t, fmt.Sprintf("P15.2: the kind %d by no side, %s", kind, name), c, court.Tx{Kind: kind, From: from, Deed: d}, api.ErrArg)
				}
			}
		}
		for _, id := range []uint32{1, 2, 16, 256, 1 << 31, math.MaxUint32} {
			for from := range taker {
				refused(t, "P15.2: End of no bond, "+name, c, court.Tx{Kind: court.End, From: from, Bond: id}, api.ErrNone)
			}
		}
	}
}

// pay sees to it that each account can pay for some more orders: whoever has most gives it.
func pay(t *testing.T, c *court.Court) {
	t.Helper()
	for who := range taker {
		if c.Has(who) < 20 {
			rich := 0
			for other := range taker {
				if c.Has(other) > c.Has(rich) {
					rich = other
				}
			}
			must(t, c, court.Tx{From: rich, To: who, Amount: c.Has(rich) / 3})
		}
	}
}

// refusedBy: each kind that shows a deed has that error, in this phase; 0: it isn't asked.
type refusedBy struct {
	name              string
	d                 deed.Deed
	draw, fight, show api.Errno
}

func (r refusedBy) check(t *testing.T, phase string, c *court.Court) {
	t.Helper()
	for place, e := range []api.Errno{r.draw, r.fight, r.show} {
		for from := 1; from <= 2 && e != api.OK; from++ {
			name := fmt.Sprintf("P15.2: the kind %d by %d of a bond that is %s, %s", showing[place], from, phase, r.name)
			refused(t, name, c, court.Tx{Kind: showing[place], From: from, Deed: r.d}, e)
		}
	}
	pay(t, c)
}

// P15.2: the errors of layer 14, in each phase.
func TestDeedsRefused(t *testing.T) {
	best := state(4, [2]uint64{5, 1}, [2]uint64{2, 3}, cond(1, 0, 6, 12), cond(2, 1, 7, 12))
	forged := signed(t, state(9, [2]uint64{}, [2]uint64{2, 3}))
	forged.Moved[0] = 1
	other := signed(t, api.State{Channel: 1, Round: 9, Taken: [2]uint64{2, 3}})
	turned := signed(t, state(9, [2]uint64{}, [2]uint64{2, 3}))
	turned.Sigs[0], turned.Sigs[1] = turned.Sigs[1], turned.Sigs[0]
	bad := map[string]deed.Deed{"forged": forged, "another channel's": other, "both signatures turned round": turned, "not signed": {State: best}, "another channel's first one": deed.First(1)}
	unsound := map[string]struct {
		s api.State
		e api.Errno
	}{
		"too great a round":   {state(201, [2]uint64{}, [2]uint64{2, 3}), api.ErrLimit},
		"a payment of 0":      {state(9, [2]uint64{}, [2]uint64{2, 3}, cond(1, 0, 0, 9)), api.ErrArg},
		"two of one Id":       {state(9, [2]uint64{}, [2]uint64{2, 3}, cond(1, 0, 1, 9), cond(1, 1, 1, 9)), api.ErrTwice},
		"more than is there":  {state(9, [2]uint64{}, [2]uint64{31, 3}), api.ErrUnder},
		"more than can be":    {state(9, [2]uint64{top, top}, [2]uint64{2, 3}), api.ErrOver},
		"less than was paid":  {state(9, [2]uint64{}, [2]uint64{1, 3}), api.ErrUnder},
		"less, of Right":      {state(9, [2]uint64{}, [2]uint64{2, 2}), api.ErrUnder},
		"nothing at all":      {state(9, [2]uint64{}, [2]uint64{}), api.ErrUnder},
		"less, the next deed": {state(5, [2]uint64{}, [2]uint64{0, 3}), api.ErrUnder},
	}
	for phase, c := range eachPhase(t) {
		// as is that error, if the phase lets it come to that.
		as := func(e api.Errno) [3]api.Errno {
			return map[string][3]api.Errno{
				"Live": {e, e, api.ErrState}, "Fought": {e, api.ErrState, e}, "Shut": {api.ErrClosed, api.ErrClosed, api.ErrClosed},
			}[phase]
		}
		for name, d := range bad {
			e := as(api.ErrSign)
			refusedBy{name, d, e[0], e[1], e[2]}.check(t, phase, c)
		}
		for name, u := range unsound {
			e := as(u.e)
			refusedBy{name, signed(t, u.s), e[0], e[1], e[2]}.check(t, phase, c)
		}
		// Deeds that may be shown, behind what the phase refuses.
		e := map[string][3]api.Errno{
			"Live":   {api.ErrNone, api.OK, api.ErrState},
			"Fought": {api.ErrNone, api.ErrState, api.ErrLate},
			"Shut":   {api.ErrClosed, api.ErrClosed, api.ErrClosed},
		}[phase]
		for name, d := range map[string]deed.Deed{"the first one": deed.First(0), "Best": signed(t, best), "nothing more taken": signed(t, state(9, [2]uint64{}, [2]uint64{2, 3}))} {
			refusedBy{name, d, e[0], e[1], e[2]}.check(t, phase, c)
		}
	}
}

// ends: of an image the bond 0 is Shut, and that is given to both accounts.
func ends(left, right uint64) func(i *image) {
	return func(i *image) {
		gives(i, 1, left)
		gives(i, 2, right)
		i.bonds[0].Phase = bond.Shut
	}
}

// P15.2: End gives both accounts what they have at last, whoever asks for it, from Until on.
func TestEnd(t *testing.T) {
	for from := range taker {
		for late := range 3 {
			c := eachPhase(t)["Fought"]
			for c.Height() < 15 {
				refused(t, "P15.2: End too early", c, court.Tx{Kind: court.End, From: from}, api.ErrEarly)
			}
			pass(t, c, late)
			// Free of Left are 30+1-5-2-6, of Right 40+5-1-3-7; and all is void.
			taken(t, "P15.2: End", c, court.Tx{Kind: court.End, From: from}, ends(18+6, 34+7))
			refused(t, "P15.2: End once more", c, court.Tx{Kind: court.End, From: from}, api.ErrClosed)
			if c.Locked() != 0 || c.Kept() != 0 {
				t.Errorf("P15.3: behind End: %d, %d", c.Locked(), c.Kept())
			}
		}
	}
}

// P15.2: End in each phase, by accounts of either side and of none.
func TestEndPhases(t *testing.T) {
	for phase, e := range map[string]api.Errno{"Live": api.ErrState, "Fought": api.ErrEarly, "Shut": api.ErrClosed} {
		c := eachPhase(t)[phase]
		for from := range taker {
			refused(t, "P15.2: End of one that is "+phase, c, court.Tx{Kind: court.End, From: from}, e)
		}
	}
}

// P15.2: End by the verdicts on the payments of Best at the block's own height.
func TestEndVerdicts(t *testing.T) {
	// Left's of 5 up to 9, Right's of 7 up to 20.
	d := signed(t, state(2, [2]uint64{}, [2]uint64{}, cond(1, 0, 5, 9), cond(2, 1, 7, 20)))
	for _, w := range []struct {
		name   string
		first  []uint64
		then   []uint64
		height uint64
		e      api.Errno
		last   [2]uint64
	}{
		{"nothing told, at Until", nil, nil, 9, api.ErrEarly, [2]uint64{}},
		{"nothing told, the first one void", nil, nil, 10, api.ErrEarly, [2]uint64{}},
		{"nothing told, one open", nil, nil, 20, api.ErrEarly, [2]uint64{}},
		{"nothing told, all void", nil, nil, 21, api.OK, [2]uint64{30, 40}},
		{"nothing told, all void for long", nil, nil, 40, api.OK, [2]uint64{30, 40}},
		{"the first one told", []uint64{1}, nil, 20, api.ErrEarly, [2]uint64{}},
		{"the first one told, the second void", []uint64{1}, nil, 21, api.OK, [2]uint64{25, 45}},
		{"the second one told, the first open", []uint64{2}, nil, 9, api.ErrEarly, [2]uint64{}},
		{"the second one told, the first void", []uint64{2}, nil, 10, api.OK, [2]uint64{37, 33}},
		{"both told", []uint64{1, 2}, nil, 9, api.OK, [2]uint64{32, 38}},
		{"both told, later", []uint64{1, 2}, nil, 30, api.OK, [2]uint64{32, 38}},
		{"the first one told just ahead, in one block", []uint64{2}, []uint64{1}, 9, api.OK, [2]uint64{32, 38}},
		{"the first one told one too late", []uint64{2}, []uint64{1}, 10, api.OK, [2]uint64{37, 33}},
		{"the second one told just in time", []uint64{1}, []uint64{2}, 20, api.OK, [2]uint64{32, 38}},
		{"the second one told one too late", []uint64{1}, []uint64{2}, 21, api.OK, [2]uint64{25, 45}},
		{"others told", []uint64{3, 4}, nil, 20, api.ErrEarly, [2]uint64{}},
	} {
		c := bonded(t, 30, 40)
		must(t, c, court.Tx{Kind: court.Fight, From: 1, Deed: d})
		for _, n := range w.first {
			must(t, c, court.Tx{Kind: court.Tell, From: 3, Secret: secretOf(n)})
		}
		pass(t, c, int(w.height-1-c.Height()))
		want := counted(imageOf(t, c), court.Tx{Kind: court.End, From: 0, Fee: least}, w.e)
		var picks []int
		for place, n := range w.then {
			submit(t, c, numbered(c, court.Tx{Kind: court.Tell, From: 3, Secret: secretOf(n)}))
			picks = append(picks, place)
		}
		submit(t, c, numbered(c, court.Tx{Kind: court.End, From: 0}))
		l, e := c.Block(append(picks, len(picks))...)
		if e != api.OK || l[len(picks)] != w.e {
			t.Errorf("P15.2: End, %s: %d, %d", w.name, l, e)
		}
		if w.e == api.OK {
			ends(w.last[0], w.last[1])(&want)
		}
		if len(picks) == 0 {
			wantImage(t, "P15.2: End, "+w.name, c, want)
		}
		if c.Has(1) != want.has[1] || c.Has(2) != want.has[2] || c.Kept() != want.kept {
			t.Errorf("P15.2: End, %s: %d, %d, %d is kept; want %d, %d", w.name, c.Has(1), c.Has(2), c.Kept(), want.has, want.kept)
		}
	}
}

// P15.2: a bond whose Best came to more than can be, when more was put in, doesn't end: what both have at last can't be told.
func TestEndOver(t *testing.T) {
	c := bonded(t, 10, 0)
	d := signed(t, state(2, [2]uint64{top, top - 10}, [2]uint64{}))
	must(t, c, court.Tx{Kind: court.Fight, From: 1, Deed: d}, court.Tx{Kind: court.Put, From: 1, Amount: 1})
	pass(t, c, 9)
	refused(t, "P15.2: End of what came to too much", c, court.Tx{Kind: court.End, From: 1}, api.ErrOver)
	refused(t, "P15.2: End of what came to too much", c, court.Tx{Kind: court.End, From: 0}, api.ErrOver)
}

// P15.2: bonds go on each on its own.
func TestManyBonds(t *testing.T) {
	c := fresh(t)
	for _, who := range [][2]int{{1, 2}, {2, 1}, {0, 3}} {
		must(t, c, court.Tx{Kind: court.Open, From: who[0], To: who[1], Amount: 20, Roots: roots()})
	}
	d := signed(t, api.State{Channel: 1, Round: 1, Moved: [2]uint64{7, 0}, Taken: [2]uint64{0, 4}})
	must(t, c, court.Tx{Kind: court.Put, From: 3, Bond: 2, Amount: 9}, court.Tx{Kind: court.Draw, From: 1, Bond: 1, Deed: d}, court.Tx{Kind: court.Fight, From: 2, Bond: 1, Deed: d})
	pass(t, c, 4)
	must(t, c, court.Tx{Kind: court.End, From: 0, Bond: 1})
	want := []struct {
		phase int
		put   [2]uint64
		paid  [2]uint64
	}{{bond.Live, [2]uint64{20, 0}, [2]uint64{}}, {bond.Shut, [2]uint64{20, 0}, [2]uint64{0, 4}}, {bond.Live, [2]uint64{20, 9}, [2]uint64{}}}
	for id, w := range want {
		if b, ok := c.Bond(uint32(id)); !ok || b.Phase != w.phase || b.Put != w.put || b.Paid != w.paid {
			t.Errorf("P15.2: the bond %d: %v; want %v", id, b, w)
		}
	}
	// 1 paid for two orders, and has 20 in the bond 0; of the bond 1 it was paid 4, and then 3. 2 has the other 13.
	if c.Has(1) != 200-2*least-20+4+3 || c.Has(2) != 300-2*least-20+13 || c.Locked() != 49 {
		t.Errorf("P15.2: %d, %d, %d locked", c.Has(1), c.Has(2), c.Locked())
	}
	imageOf(t, c)
}
