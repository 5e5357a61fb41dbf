package court_test

import (
	"fmt"
	"math"
	"reflect"
	"slices"
	"testing"

	"tollhouse/api"
	"tollhouse/court"
)

// fill lets so many orders of the account 0 wait, of rising amounts, with numbers one behind the other.
func fill(t *testing.T, c *court.Court, many int) {
	t.Helper()
	for n := range many {
		submit(t, c, court.Tx{From: 0, To: 1, Amount: uint64(n), Nonce: uint64(n), Fee: least})
	}
}

// amounts are those of the orders that wait.
func amounts(c *court.Court) []uint64 {
	l := []uint64{}
	for _, x := range c.Pool() {
		l = append(l, x.Amount)
	}
	return l
}

// rich is a court whose account 0 can pay for many orders.
func rich(t *testing.T) *court.Court {
	t.Helper()
	return made(t, least, 1<<40, 200, 300, 400, 7)
}

// P15.1, P15.2: orders wait in the order in which they came, as they came, whatever they are of.
func TestSubmit(t *testing.T) {
	c := fresh(t)
	var want []court.Tx
	for n, x := range someOrders(t)[:api.MaxPool] {
		x.From, x.Fee, x.Nonce = n%4, least+uint64(n), uint64(n*7)
		submit(t, c, x)
		want = append(want, bare(x))
	}
	i := imageOf(t, c)
	if !reflect.DeepEqual(i.pool, want) {
		t.Errorf("P15.1: the pool has %d orders, not the %d that came", len(i.pool), len(want))
	}
	i.pool = nil
	wantImage(t, "P15.2: Submit does nothing yet", fresh(t), i)
}

// P15.2: what Submit refuses, and in which order; then nothing waits.
func TestSubmitWrong(t *testing.T) {
	c := fresh(t)
	for _, from := range append([]int{taker}, strangers...) {
		for _, fee := range []uint64{0, least - 1, least, top} {
			if e := c.Submit(court.Tx{From: from, To: 1, Fee: fee}); e != api.ErrArg {
				t.Errorf("P15.2: Submit from %d, with the fee %d: %d", from, fee, e)
			}
		}
	}
	for from := range taker {
		for _, fee := range []uint64{0, least - 1} {
			if e := c.Submit(court.Tx{From: from, To: 1, Fee: fee}); e != api.ErrFee {
				t.Errorf("P15.2: Submit from %d, with the fee %d: %d", from, fee, e)
			}
		}
	}
	wantImage(t, "R2: behind orders that were refused", c, imageOf(t, fresh(t)))
	for from := range taker {
		for _, fee := range []uint64{least, least + 1, top} {
			if e := c.Submit(court.Tx{From: from, To: 1, Fee: fee}); e != api.OK {
				t.Errorf("P15.2: Submit from %d, with the fee %d: %d", from, fee, e)
			}
		}
	}
	if len(c.Pool()) != 12 {
		t.Errorf("P15.2: %d orders wait", len(c.Pool()))
	}
}

// P15.2: the least that an order costs, where it is nothing, and as much as can be.
func TestLeast(t *testing.T) {
	for _, w := range []struct {
		least, fee uint64
		e          api.Errno
	}{
		{0, 0, api.OK}, {0, top, api.OK}, {1, 0, api.ErrFee}, {1, 1, api.OK}, {1 << 32, 1<<32 - 1, api.ErrFee}, {1 << 32, 1 << 32, api.OK},
		{1 << 63, 1<<63 - 1, api.ErrFee}, {1 << 63, 1 << 63, api.OK}, {top, top - 1, api.ErrFee}, {top, 0, api.ErrFee}, {top, top, api.OK},
	} {
		c := made(t, w.least, 5, 0)
		if e := c.Submit(court.Tx{Fee: w.fee}); e != w.e {
			t.Errorf("P15.2: the fee %d of at least %d: %d; want %d", w.fee, w.least, e, w.e)
		}
	}
	// Two accounts: but one can give orders.
	c := made(t, 0, 5, 6)
	if a, b := c.Submit(court.Tx{From: 1}), c.Submit(court.Tx{From: 0}); a != api.ErrArg || b != api.OK {
		t.Errorf("P15.2: of two accounts: %d, %d", a, b)
	}
}

// P15.2: 64 orders wait, and not one more, whatever that is.
func TestPoolFull(t *testing.T) {
	c := rich(t)
	fill(t, c, 63)
	if e := c.Submit(court.Tx{From: taker, Fee: least}); e != api.ErrArg {
		t.Errorf("P15.2: behind 63 orders, from the last account: %d", e)
	}
	if e := c.Submit(court.Tx{From: 0, Fee: least - 1}); e != api.ErrFee {
		t.Errorf("P15.2: behind 63 orders, with too small a fee: %d", e)
	}
	submit(t, c, court.Tx{From: 0, Amount: 63, Nonce: 63, Fee: least})
	before := imageOf(t, c)
	if len(before.pool) != api.MaxPool {
		t.Fatalf("P15.2: %d orders wait", len(before.pool))
	}
	for _, x := range []court.Tx{{From: 0, Fee: least}, {From: 1, Fee: top}, {From: 0, Fee: least - 1}, {From: taker, Fee: least}, {From: -1}, before.pool[3]} {
		if e := c.Submit(x); e != api.ErrFull {
			t.Errorf("P15.2: behind 64 orders, from %d with the fee %d: %d", x.From, x.Fee, e)
		}
	}
	wantImage(t, "R2: behind orders that were refused", c, before)

	// An order that was done, or couldn't be, waits no longer.
	for n, place := range []int{0, 62, 30} {
		if _, e := c.Block(place); e != api.OK {
			t.Errorf("P15.2: Block(%d): %d", place, e)
		}
		submit(t, c, court.Tx{From: 1, Amount: 100 + uint64(n), Fee: least})
		if e := c.Submit(court.Tx{From: 1, Fee: least}); e != api.ErrFull {
			t.Errorf("P15.2: behind 64 orders again: %d", e)
		}
	}
	if e := c.Submit(court.Tx{From: 1, Fee: least}); e != api.ErrFull {
		t.Errorf("P15.2: behind 64 orders again: %d", e)
	}
	want := []uint64{}
	for n := uint64(1); n < 64; n++ {
		if n != 63 && n != 31 {
			want = append(want, n)
		}
	}
	want = append(want, 100, 101, 102)
	if got := amounts(c); !slices.Equal(got, want) {
		t.Errorf("P15.1: the pool: %d; want %d", got, want)
	}
}

// P15.2: picks that can't be, also behind ones that can: nothing is done then.
func TestPicksWrong(t *testing.T) {
	for _, many := range []int{0, 1, 2, 5, 63, 64} {
		c := rich(t)
		fill(t, c, many)
		pass(t, c, 2)
		before := imageOf(t, c)
		wrong := [][]int{{-1}, {many}, {many + 1}, {64}, {65}, {1 << 32}, {math.MaxInt}, {math.MinInt}, make([]int, 65), slices.Repeat([]int{many - 1}, 2)}
		if many > 0 {
			wrong = append(wrong, []int{0, 0}, []int{0, -1}, []int{-1, 0}, []int{0, many}, []int{many, 0}, []int{0, 1 << 32}, []int{0, 1<<32 + 1}, make([]int, 1000))
		}
		if many > 2 {
			wrong = append(wrong, []int{0, 1, 2, 0}, []int{0, 1, 2, 1}, []int{2, 1, 2}, []int{0, 1, 2, many}, []int{1, -1, 2})
		}
		for _, picks := range wrong {
			keep := slices.Clone(picks)
			if l, e := c.Block(picks...); e != api.ErrArg || len(l) != 0 {
				t.Errorf("P15.2: of %d orders, Block(%d): %v, %d", many, picks, l, e)
			}
			if !slices.Equal(picks, keep) {
				t.Errorf("R3: the picks were turned: %d", picks)
			}
		}
		wantImage(t, "R2: behind picks that can't be", c, before)
	}
}

// P15.2: a block of no order is one higher, and that is all.
func TestNoPicks(t *testing.T) {
	for _, many := range []int{0, 1, 64} {
		c := rich(t)
		fill(t, c, many)
		want := imageOf(t, c)
		for height := range uint64(3) {
			pass(t, c, 1)
			want.height = height + 1
			wantImage(t, fmt.Sprintf("P15.2: a block of none of %d orders", many), c, want)
		}
	}
}

// P15.2: orders are done in the order in which they are picked, and the others wait on, in theirs.
func TestPicks(t *testing.T) {
	c := rich(t)
	fill(t, c, 8)
	picks := []int{2, 0, 5, 1, 7}
	l, e := c.Block(picks...)
	// 2 comes ahead of its turn, as do 5 and 7: of 0 and 1 the numbers are right.
	if e != api.OK || !slices.Equal(l, []api.Errno{api.ErrNonce, api.OK, api.ErrNonce, api.OK, api.ErrNonce}) {
		t.Errorf("P15.2: Block(%d): %d, %d", picks, l, e)
	}
	if got := amounts(c); !slices.Equal(got, []uint64{3, 4, 6}) {
		t.Errorf("P15.2: what waits on: %d", got)
	}
	if c.Height() != 1 || c.Next(0) != 2 || c.Has(1) != 201 || c.Has(taker) != 7+2*least {
		t.Errorf("P15.2: height %d, next %d, %d, %d", c.Height(), c.Next(0), c.Has(1), c.Has(taker))
	}
	var want []court.Event
	for n := range picks {
		want = append(want, court.Event{Height: 1, Err: l[n]})
	}
	if got := c.Events(); !slices.Equal(got, want) {
		t.Errorf("P15.1: the events: %v; want %v", got, want)
	}
	if !slices.Equal(picks, []int{2, 0, 5, 1, 7}) {
		t.Errorf("R3: the picks were turned: %d", picks)
	}
	// Their places are those that they have now.
	submit(t, c, court.Tx{From: 0, To: 1, Amount: 50, Nonce: 2, Fee: least})
	if l, e := c.Block(3, 0); e != api.OK || !slices.Equal(l, []api.Errno{api.OK, api.OK}) || c.Has(1) != 254 {
		t.Errorf("P15.2: Block(3, 0): %d, %d: %d", l, e, c.Has(1))
	}
	if got := amounts(c); !slices.Equal(got, []uint64{4, 6}) {
		t.Errorf("P15.2: what waits on: %d", got)
	}
}

// P15.2: all 64 orders in one block, forwards and backwards.
func TestPickAll(t *testing.T) {
	c, other := rich(t), rich(t)
	fill(t, c, 64)
	fill(t, other, 64)
	var picks []int
	for n := range 64 {
		picks = append(picks, n)
	}
	l, e := c.Block(picks...)
	if e != api.OK || !slices.Equal(l, make([]api.Errno, 64)) || c.Has(1) != 200+63*32 || c.Next(0) != 64 || len(c.Pool()) != 0 {
		t.Errorf("P15.2: all: %d, %d: %d", l, e, c.Has(1))
	}
	slices.Reverse(picks)
	l, e = other.Block(picks...)
	want := slices.Repeat([]api.Errno{api.ErrNonce}, 64)
	want[63] = api.OK
	if e != api.OK || !slices.Equal(l, want) || other.Has(1) != 200 || other.Next(0) != 1 || len(other.Pool()) != 0 {
		t.Errorf("P15.2: all, backwards: %d, %d: %d", l, e, other.Has(1))
	}
}

// P15.2: what an order does, the next one of the block already finds.
func TestOneBehindTheOther(t *testing.T) {
	c := made(t, 0, 10, 0, 0, 0)
	for who := range 3 {
		submit(t, c, court.Tx{From: who, To: (who + 1) % 3, Amount: 10})
	}
	if l, e := c.Block(2, 0, 1); e != api.OK || !slices.Equal(l, []api.Errno{api.ErrUnder, api.OK, api.OK}) || c.Has(2) != 10 {
		t.Errorf("P15.2: one behind the other: %d, %d: %d", l, e, c.Has(2))
	}
}

// P15.2: an order that costs all that From has goes through; one that costs one more doesn't count at all.
func TestFee(t *testing.T) {
	for _, x := range []court.Tx{{To: 1}, {Kind: court.Tell}, {Kind: court.Open, To: 1, Roots: roots()}} {
		c := made(t, 3, 3, 50, 9)
		x.Fee = 3
		if e := alone(t, c, x); e != api.OK || c.Has(0) != 0 || c.Has(2) != 12 || c.Next(0) != 1 {
			t.Errorf("P15.2: just the fee, kind %d: %d: %d, %d, next %d", x.Kind, e, c.Has(0), c.Has(2), c.Next(0))
		}
	}
	for _, w := range []struct{ has, fee uint64 }{{2, 3}, {0, 3}, {3, 4}, {3, top}, {1 << 32, 1<<32 + 1}, {top - 60, top - 59}} {
		for _, x := range append(someOrders(t)[:12], court.Tx{Kind: 99}) {
			for _, nonce := range []uint64{0, 1, top} {
				c := made(t, 3, w.has, 50, 9)
				x.From, x.Fee, x.Nonce = 0, w.fee, nonce
				want := uncounted(imageOf(t, c), x, api.ErrFee)
				if e := alone(t, c, x); e != api.ErrFee {
					t.Errorf("P15.2: the fee %d of %d, kind %d, number %d: %d", w.fee, w.has, x.Kind, nonce, e)
				}
				wantImage(t, "P15.2: behind an order without its fee", c, want)
			}
		}
	}
}

// P15.2: all of the fee is moved, ahead of what the order is for.
func TestFeeFirst(t *testing.T) {
	for _, w := range []struct {
		fee, amount uint64
		e           api.Errno
	}{{10, 90, api.OK}, {10, 91, api.ErrUnder}, {100, 0, api.OK}, {100, 1, api.ErrUnder}, {2, 98, api.OK}, {2, 99, api.ErrUnder}} {
		for _, x := range []court.Tx{{Kind: court.Send, To: 1}, {Kind: court.Open, To: 1, Roots: roots()}} {
			c := fresh(t)
			x.Fee, x.Amount = w.fee, w.amount
			if e := alone(t, c, x); e != w.e || c.Has(taker) != 7+w.fee {
				t.Errorf("P15.2: kind %d, fee %d, amount %d: %d; %d", x.Kind, w.fee, w.amount, e, c.Has(taker))
			}
		}
	}
}

// P15.2: the number must be the next one; an order with another one doesn't count at all.
func TestNonce(t *testing.T) {
	c := rich(t)
	for n := range uint64(4) {
		for _, nonce := range []uint64{n - 1, n + 1, n + 2, top - n, n + 1<<32, n + 1<<63} {
			for _, kind := range []int{court.Send, court.Tell, court.Open, court.Put, court.End, 99} {
				x := court.Tx{Kind: kind, From: 0, To: 1, Amount: 1, Nonce: nonce, Fee: least}
				want := uncounted(imageOf(t, c), x, api.ErrNonce)
				if e := alone(t, c, x); e != api.ErrNonce {
					t.Errorf("P15.2: the number %d for %d, kind %d: %d", nonce, n, kind, e)
				}
				wantImage(t, "P15.2: behind an order with another number", c, want)
			}
		}
		if e := alone(t, c, court.Tx{From: 0, To: 1, Nonce: n, Fee: least}); e != api.OK || c.Next(0) != n+1 {
			t.Errorf("P15.2: the number %d: %d, next %d", n, e, c.Next(0))
		}
	}
	// Each account has numbers of its own.
	if e := alone(t, c, court.Tx{From: 1, To: 0, Nonce: 0, Fee: least}); e != api.OK || c.Next(1) != 1 || c.Next(0) != 4 {
		t.Errorf("P15.2: another account's first order: %d, next %d", e, c.Next(1))
	}
}

// P15.3: an order is done once at most, though it is submitted again, in the same block or later.
func TestOnce(t *testing.T) {
	c := fresh(t)
	x := court.Tx{From: 0, To: 1, Amount: 5, Fee: least}
	for range 3 {
		submit(t, c, x)
	}
	if l, e := c.Block(1, 2); e != api.OK || !slices.Equal(l, []api.Errno{api.OK, api.ErrNonce}) {
		t.Errorf("P15.3: twice in a block: %d, %d", l, e)
	}
	if l, e := c.Block(0); e != api.OK || !slices.Equal(l, []api.Errno{api.ErrNonce}) {
		t.Errorf("P15.3: once more: %d, %d", l, e)
	}
	if e := alone(t, c, x); e != api.ErrNonce || c.Has(1) != 205 || c.Has(0) != 93 {
		t.Errorf("P15.3: submitted once more: %d; %d, %d", e, c.Has(1), c.Has(0))
	}
	if l, e := c.Block(0); e != api.ErrArg || len(l) != 0 {
		t.Errorf("P15.3: it still waits: %d, %d", l, e)
	}
	// Also one that came to nothing.
	wrong := court.Tx{From: 1, To: 0, Amount: 1000, Fee: least}
	if a, b := alone(t, c, wrong), alone(t, c, wrong); a != api.ErrUnder || b != api.ErrNonce {
		t.Errorf("P15.3: one that came to nothing: %d, %d", a, b)
	}
}

// P15.2: kinds that there aren't.
func TestNoSuchKind(t *testing.T) {
	c := rich(t)
	must(t, c, court.Tx{Kind: court.Open, From: 0, To: 1, Amount: 9, Roots: roots()})
	for _, kind := range []int{8, 9, -1, -8, 255, 256, 258, 1 << 32, 1<<32 + 7, math.MaxInt, math.MinInt} {
		refused(t, "P15.2: no such kind", c, court.Tx{Kind: kind, From: 0, To: 1, Amount: 1}, api.ErrOp)
		refused(t, "P15.2: no such kind, ahead of all else", c, court.Tx{Kind: kind, From: 2, To: -1, Amount: 0, Bond: 9}, api.ErrOp)
	}
}

// P15.1: an event has of its order what the order had, whatever that is of.
func TestEvents(t *testing.T) {
	c := rich(t)
	var want []court.Event
	pass(t, c, 3)
	for n, x := range []court.Tx{
		{Kind: court.Send, From: 1, To: 0},
		{Kind: court.Tell, From: 2, Bond: 5},
		{Kind: court.Tell, From: 3, Bond: math.MaxUint32},
		{Kind: court.Open, From: 3, To: 1, Roots: roots(), Bond: 3},
		{Kind: court.Put, From: 1, Bond: 0, Amount: 4},
		{Kind: court.Put, From: 2, Bond: 0, Amount: 4},
		{Kind: court.End, From: 0, Bond: 77},
		{Kind: -9, From: 0, Bond: 1},
	} {
		e := alone(t, c, numbered(c, x))
		want = append(want, court.Event{Height: 4 + uint64(n), Kind: x.Kind, From: x.From, Bond: x.Bond, Err: e})
		if got := c.Events(); !slices.Equal(got, want) {
			t.Errorf("P15.1: the events: %v; want %v", got, want)
		}
	}
	errs := []api.Errno{}
	for _, v := range want {
		errs = append(errs, v.Err)
	}
	if !slices.Equal(errs, []api.Errno{0, 0, api.ErrTwice, 0, 0, api.ErrArg, api.ErrNone, api.ErrOp}) {
		t.Errorf("P15.2: the errors: %d", errs)
	}
}

// P15.1: of more than 1024 events the last 1024 are told, in order.
func TestManyEvents(t *testing.T) {
	c := rich(t)
	var all []court.Event
	// batch lets so many orders be done in one block, with the last one ahead of its turn.
	batch := func(many int) {
		var picks []int
		next := c.Next(0)
		for n := range many {
			x := court.Tx{From: 0, To: 1, Nonce: next + uint64(n), Fee: least, Bond: uint32(len(all))}
			v := court.Event{Height: c.Height() + 1, Bond: x.Bond}
			if n == many-1 {
				x.Nonce, v.Err = top, api.ErrNonce
			}
			submit(t, c, x)
			picks, all = append(picks, n), append(all, v)
		}
		if _, e := c.Block(picks...); e != api.OK {
			t.Fatalf("P15.2: Block: %d", e)
		}
		if got, want := c.Events(), all[max(0, len(all)-api.MaxEvents):]; !slices.Equal(got, want) {
			t.Fatalf("P15.1: of %d events %d are told, the first one of %d; want %d, from %d on", len(all), len(got), got[0].Bond, len(want), want[0].Bond)
		}
	}
	for range 15 {
		batch(64)
	}
	// 1023, 1024, 1025 and more; whole blocks; and all over again.
	for _, many := range []int{63, 1, 1, 1, 64, 7, 64, 64} {
		batch(many)
	}
	for range 40 {
		batch(53)
	}
}

// P15.2: blocks up to the greatest height, and not one more.
func TestHeight(t *testing.T) {
	if testing.Short() {
		t.Skip("some seconds long")
	}
	t.Parallel()
	c := fresh(t)
	submit(t, c, court.Tx{Kind: court.Tell, From: 0, Secret: secretOf(1), Fee: least})
	l, e := c.Block(0)
	for e == api.OK && c.Height() < api.MaxHeight-1 {
		l, e = c.Block()
	}
	if e != api.OK || len(l) != 0 || c.Height() != 1<<30-1 {
		t.Fatalf("P15.2: at the height %d: %v, %d", c.Height(), l, e)
	}
	submit(t, c, court.Tx{Kind: court.Tell, From: 1, Secret: secretOf(2), Fee: least})
	submit(t, c, court.Tx{From: 2, Fee: least})
	if l, e := c.Block(0); e != api.OK || !slices.Equal(l, []api.Errno{api.OK}) || c.Height() != 1<<30 {
		t.Errorf("P15.2: up to the height %d: %v, %d", c.Height(), l, e)
	}
	if at, told := c.When(hashOf(2)); at != 1<<30 || !told {
		t.Errorf("P15.2: told at %d, %v", at, told)
	}
	before := imageOf(t, c)
	for _, picks := range [][]int{nil, {0}, {-1}, {0, 0}, {1}, {64}} {
		if l, e := c.Block(picks...); e != api.ErrLimit || len(l) != 0 {
			t.Errorf("P15.2: above the greatest height: Block(%d): %v, %d", picks, l, e)
		}
	}
	wantImage(t, "R2: above the greatest height", c, before)
	// Orders still come to wait.
	submit(t, c, court.Tx{From: 3, Fee: least})
}
