package bailiff_test

import (
	"math/rand"
	"slices"
	"testing"

	"tollhouse/api"
	"tollhouse/bailiff"
	"tollhouse/bond"
	"tollhouse/clerk"
	"tollhouse/code"
	"tollhouse/court"
	"tollhouse/deed"
	"tollhouse/pact"
	"tollhouse/ring"
)

// secrets is how many secrets there are by chance, bonds how many bonds.
const (
	secrets = 12
	bonds   = 3
)

// card is a deed, and whether it is right.
type card struct {
	d     deed.Deed
	right bool
}

// game is a court by chance, and deeds of its bonds.
type game struct {
	*rand.Rand
	c     *court.Court
	cards [bonds][]card
	met   map[string]int
}

// agreed are deeds of a channel, into which both put at least 60, by steps that both agreed to; some of them are forged then.
func agreed(t *testing.T, d *rand.Rand, channel uint32) []card {
	t.Helper()
	put := [2]uint64{60, 60}
	s, l := pact.New(channel), []card{{deed.First(channel), true}}
	for len(l) < 30 {
		by := pact.Turn(s.Round + 1)
		op := pact.Op{Kind: []int{0, 1, 2, 2, 2, 3, 4, 5}[d.Intn(8)], Amount: 1 + uint64(d.Intn(5)), Id: uint64(d.Intn(secrets))}
		op.Cond = cond(op.Id, by, op.Amount, uint64(3+d.Intn(60)))
		next, e := pact.Next(s, put, by, op)
		if e != api.OK {
			continue
		}
		s = next
		if d.Intn(4) > 0 {
			continue
		}
		x := card{signed(t, s), true}
		if d.Intn(8) == 0 {
			x.d.Sigs[d.Intn(2)], x.right = ring.Sig{}, false
		}
		l = append(l, x)
	}
	return l
}

func newGame(t *testing.T, d *rand.Rand, cards [bonds][]card, met map[string]int) *game {
	t.Helper()
	c, e := court.New(uint64(d.Intn(3)), 100000, 100000, 100000, 100000, 0)
	if e != api.OK {
		t.Fatal(e)
	}
	for id := range bonds {
		rule, e := code.Parse([]string{"", "push 2\nhalt", "push 20\nhalt"}[d.Intn(3)])
		if e != api.OK && len(rule) > 0 {
			t.Fatal(e)
		}
		from, to := id, (id+1)%3
		must(t, c, court.Tx{Kind: court.Open, From: from, To: to, Amount: 60, Roots: roots(), Rule: rule},
			court.Tx{Kind: court.Put, From: to, Bond: uint32(id), Amount: 60 + uint64(d.Intn(3))})
	}
	return &game{d, c, cards, met}
}

// card is one of a channel by chance, rather a late one.
func (g *game) card(id int) card {
	l := g.cards[id]
	return l[max(g.Intn(len(l)), g.Intn(len(l)))]
}

func (g *game) rules() clerk.Rules { return patient(uint64([]int{0, 0, 1, 3, 8, 30}[g.Intn(6)])) }

// submit lets an order by chance wait, with its right number, most often.
func (g *game) submit() {
	id := g.Intn(bonds)
	x := court.Tx{Kind: []int{0, 1, 1, 1, 3, 4, 4, 5, 6, 6, 7, 9}[g.Intn(12)], From: g.Intn(4), To: g.Intn(4), Amount: uint64(g.Intn(5)), Bond: uint32(id)}
	if x.Kind == court.Fight && g.Intn(3) > 0 {
		return
	}
	x.Secret, x.Deed, x.Fee = secretOf(uint64(g.Intn(secrets))), g.card(id).d, g.c.Least()
	if g.Intn(4) > 0 && x.Kind >= court.Put {
		x.From = (id + g.Intn(2)) % 3
	}
	x.Nonce = g.c.Next(x.From)
	for _, o := range g.c.Pool() {
		if o.From == x.From {
			x.Nonce++
		}
	}
	g.c.Submit(x)
}

// block makes some blocks, the first one of orders by chance.
func (g *game) block() {
	var picks []int
	for place := range g.c.Pool() {
		if g.Intn(4) > 0 {
			picks = append(picks, place)
		}
	}
	g.c.Block(picks...)
	for range g.Intn(4) {
		g.c.Block()
	}
}

// since is since when a payment could be settled, by the chapters' words; 0: it can't be.
func (g *game) since(p api.Cond) uint64 {
	if at, told := g.c.When(p.Hash); told && at <= p.Expiry {
		return at
	}
	if p.Expiry < g.c.Height() {
		return p.Expiry + 1
	}
	return 0
}

func (g *game) isOverdue(r clerk.Rules, s api.State) bool {
	for _, p := range s.Conds {
		if at := g.since(p); at > 0 && at+r.Patience <= g.c.Height() {
			return true
		}
	}
	return false
}

// wanted are the kinds of what is ordered, by the chapter's words.
func (g *game) wanted(r clerk.Rules, who int, x card) []int {
	b, _ := g.c.Bond(x.d.Channel)
	side := slices.Index(b.Who[:], who)
	if side < 0 || b.Phase == bond.Shut || !x.right {
		return nil
	}
	var l []int
	newest, isNewer := b.Best, x.d.Round > b.Best.Round
	if isNewer {
		newest = x.d.State
	}
	if newest.Taken[side] > b.Paid[side] {
		l = append(l, 4)
	}
	isLate := g.c.Height()+1 >= b.Until
	isOpen := slices.ContainsFunc(b.Best.Conds, func(p api.Cond) bool { return g.since(p) == 0 })
	switch {
	case b.Phase == bond.Live && g.isOverdue(r, x.d.State):
		l = append(l, 5)
	case b.Phase == bond.Fought && isNewer && !isLate:
		l = append(l, 6)
	case b.Phase == bond.Fought && isLate && !isOpen:
		l = append(l, 7)
	}
	return l
}

// ask holds what is answered of a deed by chance against the book, and answers what is ordered.
func (g *game) ask(t *testing.T) []court.Tx {
	t.Helper()
	id := g.Intn(bonds)
	x, r, who := g.card(id), g.rules(), (id+g.Intn(2))%3
	if g.Intn(10) == 0 {
		who = g.Intn(5)
	}
	if got, want := bailiff.Overdue(g.c, r, x.d.State), g.isOverdue(r, x.d.State); got != want {
		t.Fatalf("P21.1: Overdue: %t; want %t", got, want)
	}
	for _, p := range x.d.Conds {
		wantSince(t, "by chance", g.c, p, g.since(p))
	}
	want := g.wanted(r, who, x)
	wantOrders(t, "by chance", g.c, r, who, x.d, want...)
	if t.Failed() {
		t.FailNow()
	}
	return bailiff.Orders(g.c, r, who, x.d)
}

// room sees to it that so many more orders may wait.
func (g *game) room(many int) {
	for len(g.c.Pool())+many > api.MaxPool {
		g.c.Block(0)
	}
}

// do does one of some orders at the next block, alone or ahead of others: it goes through.
func (g *game) do(t *testing.T, l []court.Tx) {
	t.Helper()
	x := l[g.Intn(len(l))]
	x.Nonce, x.Fee = g.c.Next(x.From), g.c.Least()
	picks := []int{len(g.c.Pool())}
	if e := g.c.Submit(x); e != api.OK {
		t.Fatalf("P21.4: Submit of the kind %d: %d", x.Kind, e)
	}
	for place := range picks[0] {
		if g.Intn(2) == 0 {
			picks = append(picks, place)
		}
	}
	if g.Intn(2) == 0 {
		picks = picks[:1]
	}
	errs, e := g.c.Block(picks...)
	if e != api.OK || errs[0] != api.OK {
		t.Fatalf("P21.4: the kind %d ahead of %d others: %d, %d", x.Kind, len(picks)-1, errs, e)
	}
	g.met[[]string{4: "Draw", 5: "Fight", 6: "Show", 7: "End"}[x.Kind]]++
}

// doAll does what is fresh of some orders at the next block, if none of that account waits: all go through, but for what stands behind a Draw that took a newer deed in.
func (g *game) doAll(t *testing.T, l []court.Tx) {
	t.Helper()
	who := l[0].From
	if slices.ContainsFunc(g.c.Pool(), func(o court.Tx) bool { return o.From == who }) {
		return
	}
	first := len(g.c.Pool())
	var picks []int
	for place, x := range bailiff.Fresh(g.c, who, l) {
		if e := g.c.Submit(x); e != api.OK {
			t.Fatalf("P21.4: Submit of the kind %d: %d", x.Kind, e)
		}
		picks = append(picks, first+place)
	}
	if len(picks) != len(l) {
		t.Fatalf("P21.3: of %d orders %d are fresh", len(l), len(picks))
	}
	b, _ := g.c.Bond(l[0].Bond)
	isTakenIn := l[0].Kind == court.Draw && l[0].Deed.Round > b.Best.Round
	errs, e := g.c.Block(picks...)
	for place, got := range errs {
		if e != api.OK || got != api.OK && (place == 0 || !isTakenIn) {
			t.Fatalf("P21.4: the kinds %d: %d, %d", kinds(l), errs, e)
		}
	}
	g.met["all"]++
	if len(l) > 1 {
		g.met["two"]++
	}
}

func (g *game) step(t *testing.T) {
	t.Helper()
	g.room(2)
	switch g.Intn(8) {
	case 0, 1:
		g.submit()
	case 2:
		g.block()
	case 3:
		if l := g.ask(t); len(l) > 0 {
			g.do(t, l)
		}
	case 4:
		if l := g.ask(t); len(l) > 0 {
			g.doAll(t, l)
		}
	default:
		if len(g.ask(t)) == 0 {
			g.met["none"]++
		}
	}
}

// P21.1, P21.2, P21.4: what is ordered of deeds by chance, against the book; done at the next block alone, or ahead of others, it goes through.
func TestChance(t *testing.T) {
	if testing.Short() {
		t.Skip("some ten thousands of steps")
	}
	d := rand.New(rand.NewSource(21))
	met := map[string]int{}
	for range 4 {
		var cards [bonds][]card
		for id := range cards {
			cards[id] = agreed(t, d, uint32(id))
		}
		for range 40 {
			g := newGame(t, d, cards, met)
			for range 150 {
				g.step(t)
			}
		}
	}
	for _, what := range []string{"Draw", "Fight", "Show", "End", "all", "two", "none"} {
		if met[what] < 20 {
			t.Errorf("%s was met %d times", what, met[what])
		}
	}
}
