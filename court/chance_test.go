package court_test

import (
	"math/big"
	"math/rand"
	"reflect"
	"testing"

	"tollhouse/api"
	"tollhouse/bond"
	"tollhouse/code"
	"tollhouse/court"
	"tollhouse/deed"
	"tollhouse/notary"
	"tollhouse/pact"
	"tollhouse/ring"
)

// book is what the chapter's words make of a court, with amounts without end; of bonds it asks layer 14.
type book struct {
	least  uint64
	height uint64
	has    []*big.Int
	next   []uint64
	all    *big.Int
	n      *notary.Notary
	at     map[uint64]uint64
	bonds  []bond.Bond
	pool   []court.Tx
	events []court.Event
}

func newBook(least uint64, has ...uint64) *book {
	k := &book{least: least, next: make([]uint64, len(has)), all: sumOf(has...), n: notary.New(), at: map[uint64]uint64{}}
	for _, amount := range has {
		k.has = append(k.has, sumOf(amount))
	}
	return k
}

// image is what the court of the book must tell.
func (k *book) image() image {
	i := image{least: k.least, height: k.height, all: k.all.Uint64(), told: len(k.at)}
	kept := new(big.Int).Set(k.all)
	for who, amount := range k.has {
		i.has, i.next = append(i.has, amount.Uint64()), append(i.next, k.next[who])
		kept.Sub(kept, amount)
	}
	i.kept, i.locked = kept.Uint64(), kept.Uint64()
	for n := range uint64(secrets) {
		var s known
		if at, told := k.at[n]; told {
			s = known{secret: secretOf(n), there: true, height: at, told: true}
		}
		switch {
		case s.told && s.height <= 3:
			s.verdict = notary.Paid
		case k.height > 3:
			s.verdict = notary.Void
		}
		i.secrets = append(i.secrets, s)
	}
	for _, x := range k.pool {
		i.pool = append(i.pool, bare(x))
	}
	for _, b := range k.bonds {
		i.bonds = append(i.bonds, bareBond(b))
	}
	i.events = append(i.events, k.events[max(0, len(k.events)-api.MaxEvents):]...)
	return i
}

func (k *book) plain(who int) bool { return who >= 0 && who < len(k.has)-1 }

// lacks says whether an account has less than that.
func (k *book) lacks(who int, amount uint64) bool { return k.has[who].Cmp(sumOf(amount)) < 0 }

func (k *book) add(who int, amount uint64) { k.has[who] = new(big.Int).Add(k.has[who], sumOf(amount)) }

func (k *book) sub(who int, amount uint64) { k.has[who] = new(big.Int).Sub(k.has[who], sumOf(amount)) }

func (k *book) submit(x court.Tx) api.Errno {
	switch {
	case len(k.pool) == 64:
		return api.ErrFull
	case !k.plain(x.From):
		return api.ErrArg
	case x.Fee < k.least:
		return api.ErrFee
	}
	k.pool = append(k.pool, x)
	return api.OK
}

func (k *book) block(picks []int) ([]api.Errno, api.Errno) {
	done := map[int]bool{}
	for _, place := range picks {
		if place < 0 || place >= len(k.pool) || done[place] {
			return nil, api.ErrArg
		}
		done[place] = true
	}
	k.height++
	var l []api.Errno
	for _, place := range picks {
		x := k.pool[place]
		e := k.do(x)
		l = append(l, e)
		k.events = append(k.events, court.Event{Height: k.height, Kind: x.Kind, From: x.From, Bond: x.Bond, Err: e})
	}
	var wait []court.Tx
	for place, x := range k.pool {
		if !done[place] {
			wait = append(wait, x)
		}
	}
	k.pool = wait
	return l, api.OK
}

func (k *book) do(x court.Tx) api.Errno {
	if k.lacks(x.From, x.Fee) {
		return api.ErrFee
	}
	if k.next[x.From] != x.Nonce {
		return api.ErrNonce
	}
	k.next[x.From]++
	k.sub(x.From, x.Fee)
	k.add(len(k.has)-1, x.Fee)
	switch x.Kind {
	case 0:
		return k.send(x)
	case 1:
		return k.tell(x)
	case 2:
		return k.open(x)
	case 3, 4, 5, 6, 7:
		return k.onBond(x)
	}
	return api.ErrOp
}

func (k *book) send(x court.Tx) api.Errno {
	if x.To < 0 || x.To >= len(k.has) {
		return api.ErrArg
	}
	if k.lacks(x.From, x.Amount) {
		return api.ErrUnder
	}
	k.sub(x.From, x.Amount)
	k.add(x.To, x.Amount)
	return api.OK
}

func (k *book) tell(x court.Tx) api.Errno {
	for n := range uint64(secrets) {
		if secretOf(n) != x.Secret {
			continue
		}
		if _, told := k.at[n]; told {
			return api.ErrTwice
		}
		k.at[n] = k.height
		return k.n.Tell(x.Secret, k.height)
	}
	return api.ErrOp
}

func (k *book) open(x court.Tx) api.Errno {
	if len(k.bonds) == 16 {
		return api.ErrFull
	}
	if !k.plain(x.To) {
		return api.ErrArg
	}
	b, e := bond.New(uint32(len(k.bonds)), [2]int{x.From, x.To}, x.Roots, x.Rule)
	if e != api.OK {
		return e
	}
	if x.Amount > 0 {
		if k.lacks(x.From, x.Amount) {
			return api.ErrUnder
		}
		b, _ = b.More(api.Left, x.Amount)
		k.sub(x.From, x.Amount)
	}
	k.bonds = append(k.bonds, b)
	return api.OK
}

func (k *book) onBond(x court.Tx) api.Errno {
	if int64(x.Bond) >= int64(len(k.bonds)) {
		return api.ErrNone
	}
	b := k.bonds[x.Bond]
	side := api.Left
	switch {
	case x.Kind == 7:
	case x.From == b.Who[1]:
		side = api.Right
	case x.From != b.Who[0]:
		return api.ErrArg
	}
	var e api.Errno
	var due uint64
	var last [2]uint64
	switch x.Kind {
	case 3:
		b, e = b.More(side, x.Amount)
		if e == api.OK && k.lacks(x.From, x.Amount) {
			e = api.ErrUnder
		}
		if e == api.OK {
			k.sub(x.From, x.Amount)
		}
	case 4:
		b, due, e = b.Draw(side, x.Deed)
		k.add(x.From, due)
	case 5:
		b, e = b.Fight(x.Deed, k.height)
	case 6:
		b, e = b.Show(x.Deed, k.height)
	case 7:
		b, last, e = b.End(k.n, k.height)
		for s, amount := range last {
			k.add(k.bonds[x.Bond].Who[s], amount)
		}
	}
	if e == api.OK {
		k.bonds[x.Bond] = b
	}
	return e
}

// game is a court by chance, its book, and what can be ordered of it.
type game struct {
	*rand.Rand
	c     *court.Court
	k     *book
	deeds [4][]deed.Deed
	met   map[int]map[api.Errno]int
	// patient is a rule by which disputes wait long; in a game of an opener many bonds are opened.
	patient []byte
	opener  bool
}

func (g *game) pick(l ...uint64) uint64 { return l[g.Intn(len(l))] }

func newGame(t *testing.T, dice *rand.Rand, deeds [4][]deed.Deed, met map[int]map[api.Errno]int) *game {
	t.Helper()
	least := []uint64{0, 0, 1, 3}[dice.Intn(4)]
	has := make([]uint64, 2+dice.Intn(4))
	great := dice.Intn(3) == 0
	for who := range has {
		has[who] = uint64(dice.Intn(300))
		if great {
			has[who] = top / uint64(len(has))
		}
	}
	g := &game{Rand: dice, c: made(t, least, has...), k: newBook(least, has...), deeds: deeds, met: met}
	g.patient, g.opener = rule(t, "push 30", "halt"), dice.Intn(6) == 0
	return g
}

// agreed are deeds of a channel, into which both put at least 60, by steps that both agreed to; some of them are forged then.
func agreed(t *testing.T, dice *rand.Rand, channel uint32) []deed.Deed {
	t.Helper()
	put := [2]uint64{60, 60}
	s, l := pact.New(channel), []deed.Deed{deed.First(channel)}
	for len(l) < 40 && s.Round < api.MaxRound {
		by := pact.Turn(s.Round + 1)
		op := pact.Op{Kind: dice.Intn(6), Amount: uint64(dice.Intn(9)), Id: uint64(dice.Intn(secrets))}
		op.Cond = cond(op.Id, by, op.Amount, uint64(dice.Intn(60)))
		next, e := pact.Next(s, put, by, op)
		if e != api.OK {
			continue
		}
		s = next
		if dice.Intn(4) > 0 {
			continue
		}
		d := signed(t, s)
		if dice.Intn(8) == 0 {
			d.Sigs[dice.Intn(2)] = ring.Sig{}
		}
		l = append(l, d)
	}
	return l
}

// who is an account, or seldom none.
func (g *game) who() int {
	if g.Intn(15) == 0 {
		return []int{-1, len(g.k.has), 99, 1 << 32}[g.Intn(4)]
	}
	return g.Intn(len(g.k.has))
}

// bond is the number of a bond, or seldom of none.
func (g *game) bond() uint32 {
	if len(g.k.bonds) == 0 || g.Intn(15) == 0 {
		return uint32(g.pick(0, uint64(len(g.k.bonds)), 16, 1<<31))
	}
	return uint32(g.Intn(min(len(g.k.bonds), len(g.deeds))))
}

// kind is one by chance: of a bond that is Fought rather one that a dispute is about, and in a game of openers rather Open.
func (g *game) kind(id uint32) int {
	if g.opener && g.Intn(2) == 0 {
		return court.Open
	}
	if int(id) < len(g.k.bonds) && g.k.bonds[id].Phase == bond.Fought && g.Intn(2) == 0 {
		return court.Show
	}
	return []int{0, 1, 1, 2, 3, 3, 4, 4, 5, 6, 7, 7, 8, -1}[g.Intn(14)]
}

// order is one by chance, whose number is its account's next one, most of the time, if all that wait go through.
func (g *game) order() court.Tx {
	x := court.Tx{From: g.who(), To: g.who(), Bond: g.bond()}
	x.Kind = g.kind(x.Bond)
	x.Roots = roots()
	if g.Intn(9) == 0 {
		x.Roots.Tall = g.Intn(12) - 1
	}
	x.Rule = [][]byte{nil, nil, g.patient, g.patient, g.patient, g.patient, {99}, {code.Push}}[g.Intn(8)]
	x.Secret = secretOf(uint64(g.Intn(secrets)))
	if x.Kind == court.End && g.Intn(3) > 0 || int(x.Bond) >= len(g.deeds) {
		x.Deed = deed.First(0)
	} else {
		x.Deed = g.deeds[x.Bond][g.Intn(len(g.deeds[x.Bond]))]
	}
	if b := int(x.Bond); b < len(g.k.bonds) && g.Intn(5) > 0 {
		x.From = g.k.bonds[b].Who[g.Intn(2)]
	}
	x.Fee = g.pick(g.k.least, g.k.least, g.k.least, g.k.least+1)
	var has uint64
	if g.k.plain(x.From) {
		has = g.k.has[x.From].Uint64()
		x.Nonce = g.k.next[x.From]
		for _, y := range g.k.pool {
			if y.From == x.From {
				x.Nonce++
			}
		}
	}
	x.Amount = g.pick(0, 1, 5, 60, 60, 60, has/2, has, has-x.Fee, has-x.Fee+1, top)
	if g.opener {
		x.Amount, x.Rule = g.pick(0, 1), nil
	}
	if g.Intn(12) == 0 {
		x.Fee = g.pick(0, g.k.least-1, has, has+1, top)
	}
	if g.Intn(12) == 0 {
		x.Nonce = g.pick(0, x.Nonce-1, x.Nonce+1, top)
	}
	return x
}

// picks are some places of the pool, in order or not, and seldom ones that can't be.
func (g *game) picks() []int {
	many := len(g.k.pool)
	var l []int
	for place := range many {
		if g.Intn(4) > 0 {
			l = append(l, place)
		}
	}
	if g.Intn(5) == 0 {
		g.Shuffle(len(l), func(a, b int) { l[a], l[b] = l[b], l[a] })
	}
	if g.Intn(12) == 0 {
		l = append(l, []int{-1, many, 0, 64, 1 << 32}[g.Intn(5)])
	}
	return l
}

func (g *game) step(t *testing.T) {
	t.Helper()
	if g.Intn(3) > 0 {
		x := g.order()
		if got, want := g.c.Submit(roomy(x)), g.k.submit(x); got != want {
			t.Fatalf("P15.2: Submit from %d with the fee %d: %d; want %d", x.From, x.Fee, got, want)
		}
		return
	}
	picks := g.picks()
	if g.Intn(40) == 0 {
		for range g.Intn(20) {
			pass(t, g.c, 1)
			g.k.block(nil)
		}
	}
	kinds := g.k.pool
	l, e := g.c.Block(picks...)
	want, wantError := g.k.block(picks)
	if e != wantError || len(l) != len(want) || len(l) > 0 && !reflect.DeepEqual(l, want) {
		t.Fatalf("P15.2: Block(%d): %d, %d; want %d, %d", picks, l, e, want, wantError)
	}
	for n, e := range want {
		kind := kinds[picks[n]].Kind
		if g.met[kind] == nil {
			g.met[kind] = map[api.Errno]int{}
		}
		g.met[kind][e]++
	}
	wantImage(t, "P15.2: against the book", g.c, g.k.image())
	if t.Failed() {
		t.FailNow()
	}
}

// P15.1 to P15.3: orders and blocks by chance, against the book.
func TestChance(t *testing.T) {
	dice := rand.New(rand.NewSource(15))
	met := map[int]map[api.Errno]int{}
	var deeds [4][]deed.Deed
	for channel := range deeds {
		deeds[channel] = agreed(t, dice, uint32(channel))
	}
	for range 200 {
		g := newGame(t, dice, deeds, met)
		for range 300 {
			g.step(t)
		}
	}
	for kind, l := range map[int][]api.Errno{
		court.Send:  {api.OK, api.ErrFee, api.ErrNonce, api.ErrArg, api.ErrUnder},
		court.Tell:  {api.OK, api.ErrFee, api.ErrNonce, api.ErrTwice},
		court.Open:  {api.OK, api.ErrFee, api.ErrNonce, api.ErrFull, api.ErrArg, api.ErrOp, api.ErrShort, api.ErrUnder},
		court.Put:   {api.OK, api.ErrFee, api.ErrNonce, api.ErrNone, api.ErrArg, api.ErrClosed, api.ErrOver, api.ErrUnder},
		court.Draw:  {api.OK, api.ErrFee, api.ErrNonce, api.ErrNone, api.ErrArg, api.ErrClosed, api.ErrSign, api.ErrUnder},
		court.Fight: {api.OK, api.ErrFee, api.ErrNonce, api.ErrNone, api.ErrArg, api.ErrState, api.ErrClosed, api.ErrSign, api.ErrUnder},
		court.Show:  {api.OK, api.ErrFee, api.ErrNonce, api.ErrNone, api.ErrArg, api.ErrState, api.ErrClosed, api.ErrSign, api.ErrUnder, api.ErrLate, api.ErrRound},
		court.End:   {api.OK, api.ErrFee, api.ErrNonce, api.ErrNone, api.ErrState, api.ErrClosed, api.ErrEarly},
		8:           {api.ErrOp, api.ErrFee, api.ErrNonce},
		-1:          {api.ErrOp, api.ErrFee, api.ErrNonce},
	} {
		for _, e := range l {
			if met[kind][e] < 3 {
				t.Errorf("the error %d of the kind %d was met %d times: %v", e, kind, met[kind][e], met[kind])
			}
		}
	}
}
