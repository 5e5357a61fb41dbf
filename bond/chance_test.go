package bond_test

import (
	"math/big"
	"math/rand"
	"testing"

	"tollhouse/api"
	"tollhouse/bond"
	"tollhouse/deed"
	"tollhouse/notary"
	"tollhouse/pact"
	"tollhouse/ring"
)

// book is what the chapter's words make of a bond, with amounts without end.
type book struct {
	bond.Bond
	rule int
	in   *big.Int
	out  *big.Int
}

// rules are texts of rules, and how long each lets a dispute wait.
var rules = []struct {
	lines []string
	wait  func(k book) uint64
}{
	{nil, func(book) uint64 { return 5 }},
	{[]string{"load 2", "halt"}, func(k book) uint64 { return within(k.Best.Round) }},
	{[]string{"load 0", "load 1", "add", "halt"}, func(k book) uint64 { return within(k.Put[0] + k.Put[1]) }},
	{[]string{"load 0", "load 1", "less", "halt"}, func(book) uint64 { return 1 }},
	{[]string{"now", "push 9", "sub", "halt"}, func(book) uint64 { return 5 }},
	{[]string{"push 80", "halt"}, func(book) uint64 { return 50 }},
}

func within(n uint64) uint64 {
	switch {
	case n < 1:
		return 1
	case n > 50:
		return 50
	}
	return n
}

func plus(l ...uint64) *big.Int {
	sum := new(big.Int)
	for _, n := range l {
		sum.Add(sum, new(big.Int).SetUint64(n))
	}
	return sum
}

// shownDeed is a deed, and whether it is right.
type shownDeed struct {
	d     deed.Deed
	right bool
}

func (k book) mayShow(x shownDeed) api.Errno {
	if k.Phase == bond.Shut {
		return api.ErrClosed
	}
	if !x.right {
		return api.ErrSign
	}
	if e := pact.Sound(x.d.State, k.Put); e != api.OK {
		return e
	}
	if x.d.Round > k.Best.Round && (x.d.Taken[0] < k.Paid[0] || x.d.Taken[1] < k.Paid[1]) {
		return api.ErrUnder
	}
	return api.OK
}

func (k book) takeIn(x shownDeed) book {
	if x.d.Round > k.Best.Round {
		k.Best = x.d.State
	}
	return k
}

func (k book) more(side api.Side, amount uint64) (book, api.Errno) {
	switch {
	case side != 0 && side != 1 || amount == 0:
		return book{}, api.ErrArg
	case k.Phase == bond.Shut:
		return book{}, api.ErrClosed
	case plus(k.Put[0], k.Put[1], amount).BitLen() > 64:
		return book{}, api.ErrOver
	}
	k.Put[side] += amount
	k.in = new(big.Int).Add(k.in, plus(amount))
	return k, api.OK
}

func (k book) draw(side api.Side, x shownDeed) (book, api.Errno) {
	if side != 0 && side != 1 {
		return book{}, api.ErrArg
	}
	if e := k.mayShow(x); e != api.OK {
		return book{}, e
	}
	k = k.takeIn(x)
	if k.Best.Taken[side] == k.Paid[side] {
		return book{}, api.ErrNone
	}
	k.out = new(big.Int).Add(k.out, plus(k.Best.Taken[side]-k.Paid[side]))
	k.Paid[side] = k.Best.Taken[side]
	return k, api.OK
}

func (k book) fight(x shownDeed, height uint64) (book, api.Errno) {
	if k.Phase == bond.Fought {
		return book{}, api.ErrState
	}
	if e := k.mayShow(x); e != api.OK {
		return book{}, e
	}
	k = k.takeIn(x)
	until := plus(height, rules[k.rule].wait(k))
	if until.BitLen() > 64 {
		return book{}, api.ErrOver
	}
	k.Phase, k.Until = bond.Fought, until.Uint64()
	return k, api.OK
}

func (k book) show(x shownDeed, height uint64) (book, api.Errno) {
	if k.Phase == bond.Live {
		return book{}, api.ErrState
	}
	if e := k.mayShow(x); e != api.OK {
		return book{}, e
	}
	if height >= k.Until {
		return book{}, api.ErrLate
	}
	if x.d.Round <= k.Best.Round {
		return book{}, api.ErrRound
	}
	return k.takeIn(x), api.OK
}

// end is told the heights at which secrets were told, by Ids.
func (k book) end(at map[uint64]uint64, height uint64) (book, [2]uint64, api.Errno) {
	switch {
	case k.Phase == bond.Live:
		return book{}, [2]uint64{}, api.ErrState
	case k.Phase == bond.Shut:
		return book{}, [2]uint64{}, api.ErrClosed
	case height < k.Until:
		return book{}, [2]uint64{}, api.ErrEarly
	}
	var paid []bool
	for _, c := range k.Best.Conds {
		when, ok := at[c.Id]
		inTime := ok && when <= c.Expiry
		if !inTime && height <= c.Expiry {
			return book{}, [2]uint64{}, api.ErrEarly
		}
		paid = append(paid, inTime)
	}
	out, e := pact.Split(k.Best, k.Put, k.Paid, paid...)
	if e != api.OK {
		return book{}, [2]uint64{}, e
	}
	k.Phase = bond.Shut
	k.out = new(big.Int).Add(k.out, plus(out[:]...))
	return k, out, api.OK
}

// game is a bond by chance, its book, and what can be done to both.
type game struct {
	*rand.Rand
	b      bond.Bond
	k      book
	deeds  []shownDeed
	n      *notary.Notary
	at     map[uint64]uint64
	height uint64
	met    map[string]map[api.Errno]int
}

func (g *game) pick(l ...uint64) uint64 { return l[g.Intn(len(l))] }

func newGame(t *testing.T, dice *rand.Rand, met map[string]map[api.Errno]int) *game {
	t.Helper()
	g := &game{Rand: dice, n: notary.New(), at: map[uint64]uint64{}, met: met}
	which := g.Intn(len(rules))
	g.b = bondOf(t, [2]uint64{}, rule(t, rules[which].lines...)...)
	g.k = book{Bond: g.b, rule: which, in: plus(), out: plus()}
	for side := range api.Side(2) {
		g.more(t, side, g.pick(10, 20, 1<<20, 1<<62, top/3))
	}
	if g.Intn(8) == 0 {
		g.height = top - uint64(g.Intn(80))
	}
	g.addDeeds(t)
	return g
}

// addDeeds lets two sides agree to states, step by step, from one that there is already; to states of one round twice, too.
func (g *game) addDeeds(t *testing.T) {
	t.Helper()
	s := pact.New(id)
	if g.Intn(6) == 0 {
		s.Moved = [2]uint64{top / 2, top / 2}
	}
	for range 40 {
		by := api.Side(s.Round % 2)
		free, _ := pact.Free(s, g.k.Put, by)
		c := cond(uint64(g.Intn(12)), by, g.pick(1, 2, free/3+1), g.height+uint64(g.Intn(30)))
		op := pact.Op{Kind: g.Intn(6), Amount: g.pick(1, 2, 3, free/2), Cond: c, Id: uint64(g.Intn(12))}
		next, e := pact.Next(s, g.k.Put, by, op)
		if e != api.OK {
			continue
		}
		s = next
		switch g.Intn(6) {
		case 0:
			g.deeds = append(g.deeds, shownDeed{signed(t, s), true})
		case 1:
			x := signed(t, s)
			x.Sigs[g.Intn(2)] = ring.Sig{}
			g.deeds = append(g.deeds, shownDeed{x, false})
		case 2:
			x := s
			x.Taken[g.Intn(2)] = g.pick(0, 1, 2, 5, top)
			g.deeds = append(g.deeds, shownDeed{signed(t, x), true})
		}
	}
	g.deeds = append(g.deeds, shownDeed{deed.First(id), true})
}

func (g *game) deed() shownDeed { return g.deeds[g.Intn(len(g.deeds))] }

func (g *game) side() api.Side {
	if g.Intn(20) == 0 {
		return farSides[g.Intn(len(farSides))]
	}
	return api.Side(g.Intn(2))
}

// hold holds what a call answers against the book.
func (g *game) hold(t *testing.T, name string, do act, next book, paid [2]uint64, e api.Errno) {
	t.Helper()
	g.met[name][e]++
	got := run(t, g.b, do)
	if !sameResult(got, result{b: next.Bond, paid: paid, e: e}) {
		t.Fatalf("P14.4: %s of %v: %v; the book has the error %d, paid %d: %v", name, result{b: g.b}, got, e, paid, next.Bond)
	}
	if e == api.OK {
		g.keepsPromises(t, got.b)
		g.b, g.k = got.b, next
	}
}

// keepsPromises is P14.4, of one step.
func (g *game) keepsPromises(t *testing.T, next bond.Bond) {
	t.Helper()
	if next.Best.Round < g.b.Best.Round {
		t.Fatalf("P14.4: the Round of Best fell from %d to %d", g.b.Best.Round, next.Best.Round)
	}
	if g.b.Phase == bond.Fought && next.Until != g.b.Until {
		t.Fatalf("P14.4: Until turned from %d to %d", g.b.Until, next.Until)
	}
	if next.Phase < g.b.Phase {
		t.Fatalf("P14.4: the phase %d behind %d", next.Phase, g.b.Phase)
	}
}

func (g *game) more(t *testing.T, side api.Side, amount uint64) {
	t.Helper()
	next, e := g.k.more(side, amount)
	g.hold(t, "More", more(side, amount), next, [2]uint64{}, e)
}

func (g *game) draw(t *testing.T) {
	t.Helper()
	side, x := g.side(), g.deed()
	next, e := g.k.draw(side, x)
	var paid [2]uint64
	if e == api.OK {
		paid[side] = next.Paid[side] - g.k.Paid[side]
	}
	g.hold(t, "Draw", draw(side, x.d), next, paid, e)
}

func (g *game) fight(t *testing.T) {
	t.Helper()
	x, height := g.deed(), g.pick(g.height, g.height, top-uint64(g.Intn(60)))
	if height > g.height+100 && g.Intn(4) > 0 {
		height = g.height
	}
	next, e := g.k.fight(x, height)
	g.hold(t, "Fight", fight(x.d, height), next, [2]uint64{}, e)
}

func (g *game) show(t *testing.T) {
	t.Helper()
	x := g.deed()
	next, e := g.k.show(x, g.height)
	g.hold(t, "Show", show(x.d, g.height), next, [2]uint64{}, e)
}

func (g *game) end(t *testing.T) {
	t.Helper()
	height := g.pick(g.height, g.height, g.k.Until, g.k.Until-1, top)
	next, out, e := g.k.end(g.at, height)
	g.hold(t, "End", end(g.n, height), next, out, e)
}

// tell tells the secret of an Id, if it wasn't told already.
func (g *game) tell() {
	n := uint64(g.Intn(12))
	if g.n.Tell(secretOf(n), g.height) == api.OK {
		g.at[n] = g.height
	}
}

func (g *game) step(t *testing.T) {
	t.Helper()
	switch g.Intn(12) {
	case 0:
		g.more(t, g.side(), g.pick(0, 1, 2, 5, 1<<40, top/2, top))
	case 1, 2, 3:
		g.draw(t)
	case 4:
		if g.Intn(3) == 0 {
			g.fight(t)
		}
	case 5, 6:
		g.show(t)
	case 7:
		g.end(t)
	case 8:
		g.tell()
	case 9:
		if g.Intn(4) == 0 {
			g.addDeeds(t)
		}
	default:
		g.height += min(uint64(g.Intn(3)), top-g.height)
	}
	// What is paid, and what the bond holds, come to what was put in.
	held := new(big.Int).Add(plus(g.b.Locked()), g.k.out)
	if held.Cmp(g.k.in) != 0 || g.k.in.Cmp(plus(g.b.Put[:]...)) != 0 {
		t.Fatalf("P14.4: %v: %d is held or paid, %d was put in", result{b: g.b}, held, g.k.in)
	}
}

// P14.1 to P14.4: whatever is done, in whatever order, against the book.
func TestChance(t *testing.T) {
	dice := rand.New(rand.NewSource(14))
	met := map[string]map[api.Errno]int{}
	for _, name := range []string{"More", "Draw", "Fight", "Show", "End"} {
		met[name] = map[api.Errno]int{}
	}
	for range 150 {
		g := newGame(t, dice, met)
		for range 120 {
			g.step(t)
		}
	}
	for name, l := range map[string][]api.Errno{
		"More":  {api.OK, api.ErrArg, api.ErrClosed, api.ErrOver},
		"Draw":  {api.OK, api.ErrArg, api.ErrClosed, api.ErrSign, api.ErrUnder, api.ErrOver, api.ErrNone},
		"Fight": {api.OK, api.ErrState, api.ErrClosed, api.ErrSign, api.ErrUnder, api.ErrOver},
		"Show":  {api.OK, api.ErrState, api.ErrClosed, api.ErrSign, api.ErrUnder, api.ErrLate, api.ErrRound},
		"End":   {api.OK, api.ErrState, api.ErrClosed, api.ErrEarly},
	} {
		for _, e := range l {
			if met[name][e] < 5 {
				t.Errorf("the error %d of %s was met %d times: %v", e, name, met[name][e], met[name])
			}
		}
	}
}
