package bailiff_test

import (
	"math"
	"slices"
	"testing"

	"tollhouse/api"
	"tollhouse/bailiff"
	"tollhouse/court"
	"tollhouse/deed"
)

// submit lets orders wait.
func submit(t *testing.T, c *court.Court, l ...court.Tx) {
	t.Helper()
	for _, x := range l {
		x.Fee = max(x.Fee, c.Least())
		if e := c.Submit(x); e != api.OK {
			t.Fatalf("Submit: %d", e)
		}
	}
}

// rich is an order with something in each field.
func rich(t *testing.T) court.Tx {
	t.Helper()
	return court.Tx{
		Kind: court.Draw, From: 1, Nonce: 77, Fee: 9, To: 2, Amount: 3, Bond: 4, Secret: secretOf(5), Roots: roots(),
		Rule: []byte{1, 2, 3}, Deed: signed(t, taken(3, 1, 2, cond(1, 0, 6, 9))),
	}
}

// turnedWhole are orders like one but for what Waits asks of.
func turnedWhole(x court.Tx) []court.Tx {
	var l []court.Tx
	for _, turn := range []func(x *court.Tx){
		func(x *court.Tx) { x.From = 2 }, func(x *court.Tx) { x.From = 0 },
		func(x *court.Tx) { x.Kind++ }, func(x *court.Tx) { x.Kind-- }, func(x *court.Tx) { x.Kind += 256 },
		func(x *court.Tx) { x.Bond++ }, func(x *court.Tx) { x.Bond ^= 1 << 31 },
		func(x *court.Tx) { x.Secret[0]++ }, func(x *court.Tx) { x.Secret[31]++ },
	} {
		other := x
		turn(&other)
		l = append(l, other)
	}
	return l
}

// turnedElse are orders like one but for what Waits doesn't ask of.
func turnedElse(x court.Tx) []court.Tx {
	var l []court.Tx
	for _, turn := range []func(x *court.Tx){
		func(x *court.Tx) {}, func(x *court.Tx) { x.Nonce++ }, func(x *court.Tx) { x.Fee++ }, func(x *court.Tx) { x.To++ },
		func(x *court.Tx) { x.Amount++ }, func(x *court.Tx) { x.Roots.Tall++ }, func(x *court.Tx) { x.Rule = nil },
		func(x *court.Tx) { x.Deed = deed.Deed{} }, func(x *court.Tx) { x.Deed.Sigs[0].Key++ },
	} {
		other := x
		turn(&other)
		l = append(l, other)
	}
	return l
}

// P21.3: whether an order of its From, Kind, Bond and Secret waits, whatever else it has.
func TestWaits(t *testing.T) {
	x := rich(t)
	c := fresh(t)
	if bailiff.Waits(c, x) || bailiff.Waits(c, court.Tx{}) || bailiff.Waits(nil, x) || bailiff.Waits(nil, court.Tx{}) {
		t.Error("P21.3: an order waits where none does")
	}
	for ahead := range 3 {
		c := fresh(t)
		for range ahead {
			submit(t, c, court.Tx{Kind: court.Tell, From: 3})
		}
		submit(t, c, x)
		for _, o := range turnedElse(x) {
			if !bailiff.Waits(c, o) {
				t.Errorf("P21.3: doesn't wait, behind %d others: %v", ahead, o)
			}
		}
		for _, o := range turnedWhole(x) {
			if bailiff.Waits(c, o) {
				t.Errorf("P21.3: waits, behind %d others: the kind %d from %d of the bond %d", ahead, o.Kind, o.From, o.Bond)
			}
			// What waits needn't be told apart by one order alone.
			submit(t, c, o)
			if !bailiff.Waits(c, o) || !bailiff.Waits(c, x) {
				t.Errorf("P21.3: doesn't wait: the kind %d from %d of the bond %d", o.Kind, o.From, o.Bond)
			}
		}
	}
	// From one, and of the Secret of another one: none of them is alike.
	c = fresh(t)
	for _, o := range turnedWhole(x) {
		submit(t, c, o)
	}
	if bailiff.Waits(c, x) {
		t.Error("P21.3: waits, by parts of several")
	}
}

// P21.3: what was done waits no longer.
func TestWaitsNoLonger(t *testing.T) {
	c := fresh(t)
	x := court.Tx{Kind: court.Tell, From: 3, Secret: secretOf(5), Fee: least}
	submit(t, c, x)
	if !bailiff.Waits(c, x) {
		t.Error("P21.3: doesn't wait")
	}
	c.Block()
	if !bailiff.Waits(c, x) {
		t.Error("P21.3: doesn't wait behind a block without it")
	}
	c.Block(0)
	if bailiff.Waits(c, x) {
		t.Error("P21.3: waits behind its block")
	}
}

// wantFresh: of some orders those in these places are fresh, by an account, numbered from there on, with that fee.
func wantFresh(t *testing.T, name string, c *court.Court, who int, l []court.Tx, nonce uint64, places ...int) {
	t.Helper()
	before, waiting := bareAll(l), bareAll(c.Pool())
	var want []court.Tx
	for n, place := range places {
		x := l[place]
		x.From, x.Nonce, x.Fee = who, nonce+uint64(n), c.Least()
		want = append(want, x)
	}
	got := bailiff.Fresh(c, who, l)
	if !sameOrders(got, want) {
		t.Errorf("P21.3: %s: Fresh: %d orders %d; want %d", name, len(got), kinds(got), kinds(want))
		for _, x := range got {
			t.Errorf("the kind %d from %d, the number %d, the fee %d", x.Kind, x.From, x.Nonce, x.Fee)
		}
	}
	if !sameOrders(l, before) || !sameOrders(c.Pool(), waiting) {
		t.Errorf("R3: %s: Fresh changed the orders, or the pool", name)
	}
}

// P21.3: orders of an account of which none waits: its next number is the first one's.
func TestFresh(t *testing.T) {
	x := rich(t)
	var l []court.Tx
	for n := range uint64(5) {
		x.Secret = secretOf(n)
		l = append(l, x)
	}
	c := fresh(t)
	wantFresh(t, "no order yet", c, 1, l, 0, 0, 1, 2, 3, 4)
	wantFresh(t, "one", c, 1, l[:1], 0, 0)
	wantFresh(t, "none", c, 1, nil, 0)
	wantFresh(t, "none", c, 1, []court.Tx{}, 0)
	must(t, c, court.Tx{From: 1}, court.Tx{From: 1}, court.Tx{From: 2}, court.Tx{From: 1})
	wantFresh(t, "behind three orders", c, 1, l, 3, 0, 1, 2, 3, 4)
	for i := range l {
		l[i].From = 2
	}
	wantFresh(t, "another account", c, 2, l, 1, 0, 1, 2, 3, 4)
}

// P21.3: Nonces behind those that wait, whosever kinds these are, and whatever their own numbers.
func TestFreshBehind(t *testing.T) {
	c := fresh(t)
	must(t, c, court.Tx{From: 1}, court.Tx{From: 1})
	x := rich(t)
	for waiting := range uint64(6) {
		wantFresh(t, "others wait", c, 1, []court.Tx{x, {Kind: court.End, From: 1}}, 2+waiting, 0, 1)
		wantFresh(t, "others wait, none of it", c, 2, []court.Tx{{Kind: court.End, From: 2}}, waiting, 0)
		submit(t, c, court.Tx{From: 1, Kind: int(waiting) - 1, Nonce: 99, Bond: 7}, court.Tx{From: 2, Kind: court.Open}, court.Tx{From: 3, Kind: court.Draw})
	}
	// The pool may be full of them.
	for len(c.Pool()) < api.MaxPool {
		submit(t, c, court.Tx{From: 1, Bond: 9})
	}
	own := 0
	for _, o := range c.Pool() {
		if o.From == 1 {
			own++
		}
	}
	wantFresh(t, "a full pool", c, 1, []court.Tx{x}, 2+uint64(own), 0)
}

// P21.3: orders that wait already aren't fresh; the others go on in order, without a gap in their numbers.
func TestFreshWaiting(t *testing.T) {
	draw, fight := court.Tx{Kind: court.Draw, From: 1, Bond: 4}, court.Tx{Kind: court.Fight, From: 1, Bond: 4}
	tell, other := court.Tx{Kind: court.Tell, From: 1, Secret: secretOf(1)}, court.Tx{Kind: court.Tell, From: 1, Secret: secretOf(2)}
	l := []court.Tx{draw, fight, tell, other}
	for waiting := range 1 << len(l) {
		c := fresh(t)
		must(t, c, court.Tx{From: 1})
		submit(t, c, court.Tx{Kind: court.Draw, From: 2, Bond: 4})
		var rest []int
		own := uint64(0)
		for place, x := range l {
			if waiting>>place&1 == 1 {
				x.Nonce, x.Fee, x.Amount = 50, 40, 30
				submit(t, c, x)
				own++
			} else {
				rest = append(rest, place)
			}
		}
		wantFresh(t, "some wait", c, 1, l, 1+own, rest...)
	}
	c := fresh(t)
	x := rich(t)
	submit(t, c, x)
	wantFresh(t, "one like it waits", c, 1, turnedElse(x), 1)
	unlike := turnedWhole(x)[2:]
	var all []int
	for place := range unlike {
		all = append(all, place)
	}
	wantFresh(t, "none like it waits", c, 1, unlike, 1, all...)
	// What stands there twice, and doesn't wait, is fresh twice.
	wantFresh(t, "two alike", c, 1, []court.Tx{tell, tell, draw, tell}, 1, 0, 1, 2, 3)
}

// P21.3: whether an order waits hangs on its own From; who gives it then is told.
func TestFreshFrom(t *testing.T) {
	c := fresh(t)
	tell := court.Tx{Kind: court.Tell, From: 1, Secret: secretOf(1)}
	submit(t, c, tell)
	wantFresh(t, "another one's, that waits", c, 2, []court.Tx{tell, {Kind: court.End, From: 1}}, 0, 1)
	tell.From = 2
	wantFresh(t, "another one's, that doesn't wait", c, 1, []court.Tx{tell}, 1, 0)
}

// P21.3: all that an order has beside From, number and fee stays.
func TestFreshFields(t *testing.T) {
	x := rich(t)
	for _, fee := range []uint64{0, 1, least, 1 << 40} {
		c, e := court.New(fee, 9, 9, 9)
		if e != api.OK {
			t.Fatal(e)
		}
		l := bailiff.Fresh(c, 1, []court.Tx{x})
		if len(l) != 1 {
			t.Fatalf("P21.3: Fresh: %d", len(l))
		}
		y := l[0]
		if y.Fee != fee || y.Nonce != 0 || y.From != 1 {
			t.Errorf("P21.3: Fresh: from %d, the number %d, the fee %d; want %d", y.From, y.Nonce, y.Fee, fee)
		}
		y.Fee, y.Nonce = x.Fee, x.Nonce
		if !sameOrders([]court.Tx{y}, []court.Tx{x}) {
			t.Error("P21.3: Fresh turned another field")
		}
	}
}

// P21.3: no court, and an account that isn't there: their numbers begin at 0.
func TestFreshNobody(t *testing.T) {
	x := rich(t)
	wantFresh(t, "no court", nil, 1, []court.Tx{x, x}, 0, 0, 1)
	wantFresh(t, "no court", nil, -1, []court.Tx{x}, 0, 0)
	wantFresh(t, "no court, no order", nil, 1, nil, 0)
	c := fresh(t)
	must(t, c, court.Tx{From: 1}, court.Tx{From: 0})
	submit(t, c, court.Tx{From: 1})
	for _, who := range []int{-1, 5, 99, math.MinInt, math.MaxInt, 1 << 32, 1<<32 + 1} {
		wantFresh(t, "no such account", c, who, []court.Tx{x, x}, 0, 0, 1)
	}
	wantFresh(t, "the account that takes the fees", c, 4, []court.Tx{x}, 0, 0)
}

// P21.3, P21.4: what is fresh can be submitted, and goes through in its order, behind what waits.
func TestFreshGoesThrough(t *testing.T) {
	c := bonded(t)
	d := signed(t, taken(4, 4, 5, cond(1, 0, 6, 1)))
	submit(t, c, court.Tx{Kind: court.Send, From: 1, To: 2, Amount: 1, Nonce: c.Next(1)})
	l := bailiff.Orders(c, impatient, 1, d)
	l = append(l, court.Tx{Kind: court.Tell, From: 1, Secret: secretOf(9)})
	for range 2 {
		for _, x := range bailiff.Fresh(c, 1, l) {
			submit(t, c, x)
		}
		if n := len(c.Pool()); n != 4 {
			t.Fatalf("P21.3: %d wait", n)
		}
	}
	errs, e := c.Block(0, 1, 2, 3)
	if e != api.OK || !slices.Equal(errs, make([]api.Errno, 4)) {
		t.Errorf("P21.4: %d, %d", errs, e)
	}
}
