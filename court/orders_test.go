package court_test

import (
	"math"
	"slices"
	"strings"
	"testing"

	"tollhouse/api"
	"tollhouse/bond"
	"tollhouse/code"
	"tollhouse/court"
	"tollhouse/deed"
	"tollhouse/notary"
)

// rule is the program of some lines.
func rule(t *testing.T, lines ...string) []byte {
	t.Helper()
	p, e := code.Parse(strings.Join(lines, "\n"))
	if e != api.OK {
		t.Fatalf("the rule %v: %d", lines, e)
	}
	return p
}

// moves: of an image one account has that less, another one that more.
func moves(from, to int, amount uint64) func(i *image) {
	return func(i *image) {
		i.has[from] -= amount
		i.has[to] += amount
	}
}

// P15.2: Send moves an amount, to whomever it may be.
func TestSend(t *testing.T) {
	for _, x := range []court.Tx{
		{From: 0, To: 1, Amount: 5},
		{From: 0, To: 1, Amount: 0},
		{From: 0, To: 1, Amount: 98},
		{From: 3, To: 0, Amount: 1},
		{From: 2, To: taker, Amount: 9},
		{From: 2, To: taker, Amount: 298},
		{From: 1, To: 1, Amount: 0},
		{From: 1, To: 1, Amount: 198},
	} {
		taken(t, "P15.2: Send", fresh(t), x, moves(x.From, x.To, x.Amount))
	}
	c := made(t, 0, 0, top-1, 1)
	taken(t, "P15.2: Send of all", c, court.Tx{From: 1, To: 0, Amount: top - 1}, moves(1, 0, top-1))
	taken(t, "P15.2: Send of all, to the last one", c, court.Tx{From: 0, To: 2, Amount: top - 1}, moves(0, 2, top-1))
}

// P15.2: what Send refuses: to no account, then more than there is.
func TestSendWrong(t *testing.T) {
	c := fresh(t)
	for _, to := range strangers {
		for _, amount := range []uint64{0, 1, 5, 99, top} {
			refused(t, "P15.2: Send to no account", c, court.Tx{From: 3, To: to, Amount: amount}, api.ErrArg)
		}
	}
	for _, to := range []int{0, 1, 2, 3, taker} {
		for _, more := range []uint64{1, 2, 1 << 32, top - 500} {
			refused(t, "P15.2: Send of too much", c, court.Tx{From: 2, To: to, Amount: c.Has(2) - least + more}, api.ErrUnder)
		}
		refused(t, "P15.2: Send of the greatest number", c, court.Tx{From: 2, To: to, Amount: top}, api.ErrUnder)
	}
}

// tells: of an image a secret is told now.
func tells(n uint64) func(i *image) {
	return func(i *image) {
		k := known{secret: secretOf(n), there: true, height: i.height, told: true, verdict: notary.Paid}
		if i.height > 3 {
			k.verdict = notary.Void
		}
		i.secrets[n], i.told = k, i.told+1
	}
}

// P15.2: Tell tells a secret to the notary, at the block's own height; told again it is refused, and stays as it was.
func TestTell(t *testing.T) {
	c := fresh(t)
	tell := func(from int, n uint64) court.Tx {
		return court.Tx{Kind: court.Tell, From: from, Secret: secretOf(n)}
	}
	for n := range uint64(6) {
		taken(t, "P15.2: Tell", c, tell(int(n%4), n), tells(n))
		for from := range taker {
			refused(t, "P15.2: Tell once more", c, tell(from, n), api.ErrTwice)
		}
		pass(t, c, int(n))
	}
	for n, at := range []uint64{1, 6, 12, 19, 27, 36} {
		if height, told := c.When(hashOf(uint64(n))); height != at || !told {
			t.Errorf("P15.1: the secret %d was told at %d, %v; want %d", n, height, told, at)
		}
	}
	// Two of one block.
	x, y := numbered(c, tell(0, 9)), numbered(c, tell(1, 9))
	submit(t, c, x)
	submit(t, c, y)
	if l, e := c.Block(1, 0); e != api.OK || !slices.Equal(l, []api.Errno{api.OK, api.ErrTwice}) || c.Told() != 7 {
		t.Errorf("P15.2: Tell twice in a block: %d, %d", l, e)
	}
	if s, there := c.Secret(hashOf(9)); s != secretOf(9) || !there {
		t.Errorf("P15.1: the secret: %x, %v", s, there)
	}
}

// opens: of an image there is one bond more, and its first account put that in.
func opens(x court.Tx) func(i *image) {
	return func(i *image) {
		b := bond.Bond{Id: uint32(len(i.bonds)), Who: [2]int{x.From, x.To}, Roots: x.Roots, Rule: append([]byte(nil), x.Rule...), Put: [2]uint64{x.Amount, 0}}
		b.Best.Channel = b.Id
		i.bonds = append(i.bonds, b)
		keeps(i, x.From, x.Amount)
	}
}

// keeps: of an image that is taken out of an account, and held by a bond.
func keeps(i *image, who int, amount uint64) {
	i.has[who] -= amount
	i.kept += amount
	i.locked += amount
}

// gives is the other way round.
func gives(i *image, who int, amount uint64) {
	i.has[who] += amount
	i.kept -= amount
	i.locked -= amount
}

// P15.2: Open makes a bond of the next number, of From and To, with what Left puts in at once.
func TestOpen(t *testing.T) {
	c := fresh(t)
	tall := func(tall int) deed.Roots { return deed.Roots{Of: [2]api.Digest{{1, 31: 2}, {3}}, Tall: tall} }
	for _, x := range []court.Tx{
		{From: 0, To: 1, Amount: 10, Roots: roots()},
		{From: 0, To: 1, Amount: 0, Roots: roots()},
		{From: 1, To: 0, Amount: 1, Roots: tall(0), Rule: rule(t, "push 3", "halt")},
		{From: 3, To: 2, Amount: 0, Roots: tall(3), Rule: slices.Repeat([]byte{code.Now}, api.MaxCode)},
		{From: 2, To: 3, Amount: 298, Roots: deed.Roots{}, Rule: []byte{code.Halt}, Bond: 77, Secret: secretOf(1)},
		{From: 0, To: 2, Amount: 84, Roots: tall(8), Rule: []byte{}},
	} {
		x.Kind = court.Open
		taken(t, "P15.2: Open", c, x, opens(x))
	}
	c = made(t, 0, top, 0, 0)
	taken(t, "P15.2: Open with all that can be", c, court.Tx{Kind: court.Open, From: 0, To: 1, Amount: top}, opens(court.Tx{From: 0, To: 1, Amount: top}))
}

// P15.2: what Open refuses, and in which order.
func TestOpenWrong(t *testing.T) {
	jump, short, none := []byte{code.Jump, 0, 1}, []byte{code.Push, 0}, []byte{18}
	long := slices.Repeat([]byte{code.Now}, api.MaxCode+1)
	c := fresh(t)
	must(t, c, court.Tx{Kind: court.Open, From: 1, To: 2, Amount: 20})
	for _, w := range []struct {
		name   string
		to     int
		tall   int
		rule   []byte
		amount uint64
		e      api.Errno
	}{
		{"to itself", 0, 8, nil, 5, api.ErrArg},
		{"to itself, ahead of the rule", 0, 8, none, 5, api.ErrArg},
		{"to the last account", taker, 8, nil, 5, api.ErrArg},
		{"to the last account, ahead of the rule", taker, 8, none, 5, api.ErrArg},
		{"to the last account, ahead of the amount", taker, 8, nil, top, api.ErrArg},
		{"to one beyond", taker + 1, 8, short, 5, api.ErrArg},
		{"to -1", -1, 8, none, top, api.ErrArg},
		{"to the least number", math.MinInt, 8, nil, 0, api.ErrArg},
		{"to the greatest number", math.MaxInt, 8, nil, 0, api.ErrArg},
		{"the height -1", 1, -1, nil, 5, api.ErrArg},
		{"the height 9", 1, 9, nil, 5, api.ErrArg},
		{"the height 9, ahead of the rule", 1, 9, none, top, api.ErrArg},
		{"too long a rule", 1, 8, long, 5, api.ErrArg},
		{"no such order", 1, 8, none, 5, api.ErrOp},
		{"an order cut short", 1, 8, short, 0, api.ErrShort},
		{"a jump to no beginning", 1, 8, jump, 5, api.ErrForm},
		{"no such order, ahead of the amount", 1, 8, none, top, api.ErrOp},
		{"an order cut short, ahead of the amount", 1, 8, short, 1000, api.ErrShort},
		{"a jump to no beginning, ahead of the amount", 1, 8, jump, 1000, api.ErrForm},
		{"more than From has", 1, 8, nil, 1000, api.ErrUnder},
		{"the greatest amount", 1, 8, nil, top, api.ErrUnder},
	} {
		x := court.Tx{Kind: court.Open, From: 0, To: w.to, Roots: deed.Roots{Of: roots().Of, Tall: w.tall}, Rule: w.rule, Amount: w.amount}
		refused(t, "P15.2: Open, "+w.name, c, x, w.e)
	}
	refused(t, "P15.2: Open with one more than From has", c, court.Tx{Kind: court.Open, From: 3, To: 1, Amount: 399}, api.ErrUnder)
	taken(t, "P15.2: Open with all that From has", c, court.Tx{Kind: court.Open, From: 3, To: 1, Amount: 396}, opens(court.Tx{From: 3, To: 1, Amount: 396}))
}

// P15.2: 16 bonds, and not one more, whatever that is; a bond that is Shut counts.
func TestOpenFull(t *testing.T) {
	c := fresh(t)
	for n := range api.MaxChannels {
		x := court.Tx{Kind: court.Open, From: n % 3, To: 3, Amount: uint64(n % 2)}
		if n == 15 {
			x.To = -1
			refused(t, "P15.2: Open behind 15 bonds, to no account", c, x, api.ErrArg)
			x.To = 3
		}
		taken(t, "P15.2: Open", c, x, opens(x))
	}
	must(t, c, court.Tx{Kind: court.Fight, From: 0, Bond: 0, Deed: deed.First(0)})
	pass(t, c, 9)
	must(t, c, court.Tx{Kind: court.End, From: 0, Bond: 0})
	for _, x := range []court.Tx{{To: 1}, {To: 1, Amount: 1}, {To: -1}, {To: taker}, {To: 0}, {To: 1, Rule: []byte{18}}, {To: 1, Amount: top}} {
		x.Kind = court.Open
		refused(t, "P15.2: Open behind 16 bonds", c, x, api.ErrFull)
	}
	if c.Bonds() != 16 {
		t.Errorf("P15.1: %d bonds", c.Bonds())
	}
}

// bonded is a court with a bond of the accounts 1 and 2, into which these put that. The rule lets a dispute wait for 6 blocks.
func bonded(t *testing.T, left, right uint64) *court.Court {
	t.Helper()
	c := fresh(t)
	must(t, c, court.Tx{Kind: court.Open, From: 1, To: 2, Amount: left, Roots: roots(), Rule: rule(t, "push 6", "halt")})
	if right > 0 {
		must(t, c, court.Tx{Kind: court.Put, From: 2, Amount: right})
	}
	return c
}

// state is one of the channel 0.
func state(round uint64, moved, taken [2]uint64, l ...api.Cond) api.State {
	return api.State{Round: round, Moved: moved, Taken: taken, Conds: l}
}

// eachPhase are courts whose bond 0, of 30 and 40, is in each phase; 2 and 3 of it were paid out. It is fought at the height 10, until 16.
func eachPhase(t *testing.T) map[string]*court.Court {
	t.Helper()
	l := map[string]*court.Court{}
	d := signed(t, state(4, [2]uint64{5, 1}, [2]uint64{2, 3}, cond(1, 0, 6, 12), cond(2, 1, 7, 12)))
	for _, name := range []string{"Live", "Fought", "Shut"} {
		c := bonded(t, 30, 40)
		must(t, c, court.Tx{Kind: court.Draw, From: 1, Deed: d}, court.Tx{Kind: court.Draw, From: 2, Deed: d})
		pass(t, c, 5)
		if name != "Live" {
			must(t, c, court.Tx{Kind: court.Fight, From: 1, Deed: d})
		}
		if name == "Shut" {
			pass(t, c, 5)
			must(t, c, court.Tx{Kind: court.End, From: 1})
		}
		l[name] = c
	}
	return l
}

// puts: of an image an account puts that into the bond 0, on its side.
func puts(who int, side api.Side, amount uint64) func(i *image) {
	return func(i *image) {
		keeps(i, who, amount)
		i.bonds[0].Put[side] += amount
	}
}

// P15.2: Put takes an amount out of an account, and its side puts it in, as long as the bond isn't Shut.
func TestPut(t *testing.T) {
	for name, c := range eachPhase(t) {
		if name == "Shut" {
			continue
		}
		taken(t, "P15.2: Put by Left, "+name, c, court.Tx{Kind: court.Put, From: 1, Amount: 5}, puts(1, 0, 5))
		taken(t, "P15.2: Put by Right, "+name, c, court.Tx{Kind: court.Put, From: 2, Amount: 7}, puts(2, 1, 7))
		refused(t, "P15.2: Put of one more than all, "+name, c, court.Tx{Kind: court.Put, From: 1, Amount: c.Has(1) - least + 1}, api.ErrUnder)
		all := c.Has(1) - least
		taken(t, "P15.2: Put of all, "+name, c, court.Tx{Kind: court.Put, From: 1, Amount: all}, puts(1, 0, all))
		if b, _ := c.Bond(0); c.Has(1) != 0 || b.Put != [2]uint64{35 + all, 47} {
			t.Errorf("P15.2: Put: %d is left, %d put in", c.Has(1), b.Put)
		}
	}
}

// P15.2: what Put refuses, and in which order.
func TestPutWrong(t *testing.T) {
	for name, c := range eachPhase(t) {
		for _, id := range []uint32{1, 2, 16, 1 << 16, math.MaxUint32} {
			for _, x := range []court.Tx{{From: 0, Amount: 0}, {From: 1, Amount: 5}, {From: 2, Amount: top}} {
				x.Kind, x.Bond = court.Put, id
				refused(t, "P15.2: Put into no bond, "+name, c, x, api.ErrNone)
			}
		}
		shut := func(e api.Errno) api.Errno {
			if name == "Shut" {
				return api.ErrClosed
			}
			return e
		}
		for _, from := range []int{0, 3} {
			for _, amount := range []uint64{0, 5, top} {
				refused(t, "P15.2: Put by no side, "+name, c, court.Tx{Kind: court.Put, From: from, Amount: amount}, api.ErrArg)
			}
		}
		for from := 1; from <= 2; from++ {
			refused(t, "P15.2: Put of 0, "+name, c, court.Tx{Kind: court.Put, From: from}, api.ErrArg)
			refused(t, "P15.2: Put of more than From has, "+name, c, court.Tx{Kind: court.Put, From: from, Amount: 1000}, shut(api.ErrUnder))
			refused(t, "P15.2: Put of more than can be, "+name, c, court.Tx{Kind: court.Put, From: from, Amount: top}, shut(api.ErrOver))
		}
	}
}

// P15.2: more than 2^64 - 1 in all can't be put in, also when what was put in was paid out meanwhile.
func TestPutOver(t *testing.T) {
	c := made(t, 0, top, 0, 0)
	must(t, c, court.Tx{Kind: court.Open, From: 0, To: 1, Amount: top, Roots: roots()})
	for from := range 2 {
		refused(t, "P15.2: Put where all is put in", c, court.Tx{Kind: court.Put, From: from, Amount: 1}, api.ErrOver)
	}
	d := signed(t, state(1, [2]uint64{top, 0}, [2]uint64{0, top}))
	must(t, c, court.Tx{Kind: court.Draw, From: 1, Deed: d})
	if c.Has(1) != top || c.Locked() != 0 {
		t.Errorf("P15.2: Draw of all: %d, %d", c.Has(1), c.Locked())
	}
	refused(t, "P15.2: Put where all was put in", c, court.Tx{Kind: court.Put, From: 1, Amount: 1}, api.ErrOver)
}
