package court_test

import (
	"math"
	"math/big"
	"reflect"
	"slices"
	"sync"
	"testing"

	"tollhouse/api"
	"tollhouse/bond"
	"tollhouse/court"
	"tollhouse/deed"
	"tollhouse/mill"
	"tollhouse/notary"
	"tollhouse/pact"
	"tollhouse/ring"
)

const top = math.MaxUint64

// The court of most tests: four accounts, and one that takes the fees; an order costs 2 at least.
const (
	least = 2
	taker = 4
)

func made(t *testing.T, least uint64, has ...uint64) *court.Court {
	t.Helper()
	c, e := court.New(least, has...)
	if e != api.OK || c == nil {
		t.Fatalf("P15.1: New(%d, %d): %d", least, has, e)
	}
	return c
}

func fresh(t *testing.T) *court.Court {
	t.Helper()
	return made(t, least, 100, 200, 300, 400, 7)
}

// keys are both sides' rings, of the greatest height.
var keys = sync.OnceValue(func() [2]*ring.Ring {
	left, _ := ring.New([32]byte{1}, 8)
	right, _ := ring.New([32]byte{2}, 8)
	return [2]*ring.Ring{left, right}
})

func roots() deed.Roots {
	return deed.Roots{Of: [2]api.Digest{keys()[0].Root(), keys()[1].Root()}, Tall: 8}
}

// signed is a state that both signed, whatever else they signed of that round.
func signed(t *testing.T, s api.State) deed.Deed {
	t.Helper()
	d := deed.Deed{State: s}
	for side, r := range keys() {
		r.Spend(uint32(s.Round))
		sig, e := deed.Again(r, s)
		if e != api.OK {
			t.Fatalf("the round %d can't be signed: %d", s.Round, e)
		}
		d.Sigs[side] = sig
	}
	return d
}

func secretOf(n uint64) api.Secret { return api.Secret{byte(n), byte(n >> 8), 31: 9} }

func hashOf(n uint64) api.Hash { return mill.Lock(secretOf(n)) }

// cond is a payment whose secret hangs on its Id.
func cond(n uint64, by api.Side, amount, expiry uint64) api.Cond {
	return api.Cond{Id: n, By: by, Amount: amount, Hash: hashOf(n), Expiry: expiry}
}

// secrets is how many secrets a test may tell: those of the numbers below it.
const secrets = 12

// known is what a court tells of a secret.
type known struct {
	secret  api.Secret
	there   bool
	height  uint64
	told    bool
	verdict notary.Verdict
}

// image is all that a court tells.
type image struct {
	has, next         []uint64
	kept, all, locked uint64
	height, least     uint64
	told              int
	secrets           []known
	pool              []court.Tx
	events            []court.Event
	bonds             []bond.Bond
}

// bare is an order whose lists are nil, if they are empty.
func bare(x court.Tx) court.Tx {
	x.Rule = append([]byte(nil), x.Rule...)
	x.Deed.Conds = append([]api.Cond(nil), x.Deed.Conds...)
	for side := range x.Deed.Sigs {
		x.Deed.Sigs[side].Way = append([]api.Digest(nil), x.Deed.Sigs[side].Way...)
	}
	return x
}

func bareBond(b bond.Bond) bond.Bond {
	b.Rule = append([]byte(nil), b.Rule...)
	b.Best.Conds = append([]api.Cond(nil), b.Best.Conds...)
	return b
}

// imageOf is what a court tells now; P15.3 must hold of it.
func imageOf(t *testing.T, c *court.Court) image {
	t.Helper()
	i := image{kept: c.Kept(), all: c.All(), locked: c.Locked(), height: c.Height(), least: c.Least(), told: c.Told()}
	for who := range c.Accounts() {
		i.has, i.next = append(i.has, c.Has(who)), append(i.next, c.Next(who))
	}
	for n := range uint64(secrets) {
		var k known
		k.secret, k.there = c.Secret(hashOf(n))
		k.height, k.told = c.When(hashOf(n))
		k.verdict = c.Verdict(cond(n, 0, 1, 3))
		i.secrets = append(i.secrets, k)
	}
	for _, x := range c.Pool() {
		i.pool = append(i.pool, bare(x))
	}
	i.events = append(i.events, c.Events()...)
	for id := range c.Bonds() {
		b, ok := c.Bond(uint32(id))
		if !ok || b.Id != uint32(id) {
			t.Errorf("P15.1: Bond(%d): %d, %v", id, b.Id, ok)
		}
		i.bonds = append(i.bonds, bareBond(b))
	}
	wantSums(t, i)
	return i
}

func sumOf(l ...uint64) *big.Int {
	sum := new(big.Int)
	for _, n := range l {
		sum.Add(sum, new(big.Int).SetUint64(n))
	}
	return sum
}

// wantSums: what all accounts have, and what is kept, are All; what is kept is what all bonds hold.
func wantSums(t *testing.T, i image) {
	t.Helper()
	if sumOf(append([]uint64{i.kept}, i.has...)...).Cmp(sumOf(i.all)) != 0 {
		t.Errorf("P15.3: accounts have %d, %d is kept: not %d", i.has, i.kept, i.all)
	}
	held := new(big.Int)
	for _, b := range i.bonds {
		held.Add(held, sumOf(b.Locked()))
	}
	if held.Cmp(sumOf(i.kept)) != 0 || i.locked != i.kept {
		t.Errorf("P15.3: all bonds hold %d, Locked is %d, %d is kept", held, i.locked, i.kept)
	}
}

// wantImage holds what a court tells now against what it must tell.
func wantImage(t *testing.T, name string, c *court.Court, want image) {
	t.Helper()
	got := imageOf(t, c)
	if reflect.DeepEqual(got, want) {
		return
	}
	g, w := parts(got), parts(want)
	for part := range g {
		if !reflect.DeepEqual(g[part], w[part]) {
			t.Errorf("%s: %s: %v; want %v", name, part, g[part], w[part])
		}
	}
	if !reflect.DeepEqual(got.pool, want.pool) {
		t.Errorf("%s: the pool has %d orders; want %d, or others", name, len(got.pool), len(want.pool))
	}
}

// parts are an image's parts by their names, but for the pool, whose orders are too long to be told.
func parts(i image) map[string]any {
	return map[string]any{
		"accounts have": i.has, "next numbers": i.next, "kept": i.kept, "all": i.all, "locked": i.locked, "height": i.height,
		"least": i.least, "told": i.told, "secrets": i.secrets, "bonds": i.bonds, "events": i.events,
	}
}

// numbered is an order with its account's next number, and the least fee, if it has none.
func numbered(c *court.Court, x court.Tx) court.Tx {
	x.Nonce = c.Next(x.From)
	if x.Fee == 0 {
		x.Fee = c.Least()
	}
	return x
}

// submit lets an order wait, as it is.
func submit(t *testing.T, c *court.Court, x court.Tx) {
	t.Helper()
	if e := c.Submit(x); e != api.OK {
		t.Fatalf("P15.2: Submit: %d", e)
	}
}

// alone does an order, as it is, in a block of its own: what became of it.
func alone(t *testing.T, c *court.Court, x court.Tx) api.Errno {
	t.Helper()
	place := len(c.Pool())
	submit(t, c, x)
	l, e := c.Block(place)
	if e != api.OK || len(l) != 1 {
		t.Fatalf("P15.2: Block(%d): %v, %d", place, l, e)
	}
	return l[0]
}

// must does orders one by one, each of which must go through.
func must(t *testing.T, c *court.Court, l ...court.Tx) {
	t.Helper()
	for _, x := range l {
		if e := alone(t, c, numbered(c, x)); e != api.OK {
			t.Fatalf("P15.2: an order of the kind %d from %d: %d", x.Kind, x.From, e)
		}
	}
}

// pass makes blocks without orders.
func pass(t *testing.T, c *court.Court, many int) {
	t.Helper()
	for range many {
		if l, e := c.Block(); e != api.OK || len(l) != 0 {
			t.Fatalf("P15.2: Block(): %v, %d", l, e)
		}
	}
}

// counted is an image behind an order that was done alone in the next block, with that error, and had only its number and its fee count.
func counted(i image, x court.Tx, e api.Errno) image {
	i = uncounted(i, x, e)
	i.next[x.From]++
	i.has[x.From] -= x.Fee
	i.has[len(i.has)-1] += x.Fee
	return i
}

// uncounted is one behind an order of which not even these count.
func uncounted(i image, x court.Tx, e api.Errno) image {
	i.has, i.next = slices.Clone(i.has), slices.Clone(i.next)
	i.secrets, i.bonds = slices.Clone(i.secrets), slices.Clone(i.bonds)
	i.height++
	for n := range i.secrets {
		i.secrets[n].verdict = verdictAt(i.secrets[n], i.height)
	}
	i.events = append(slices.Clone(i.events), court.Event{Height: i.height, Kind: x.Kind, From: x.From, Bond: x.Bond, Err: e})
	return i
}

// verdictAt is that on a payment with the expiry 3.
func verdictAt(k known, height uint64) notary.Verdict {
	switch {
	case k.told && k.height <= 3:
		return notary.Paid
	case height > 3:
		return notary.Void
	}
	return notary.Open
}

// refused: an order has that error in what it is for, and so changes nothing but its number and its fee.
func refused(t *testing.T, name string, c *court.Court, x court.Tx, e api.Errno) {
	t.Helper()
	x = numbered(c, x)
	want := counted(imageOf(t, c), x, e)
	if got := alone(t, c, x); got != e {
		t.Errorf("%s: %d; want %d", name, got, e)
	}
	wantImage(t, name, c, want)
}

// taken: an order goes through, and what it does to an image, beside its number and its fee, is that.
func taken(t *testing.T, name string, c *court.Court, x court.Tx, does func(i *image)) {
	t.Helper()
	x = numbered(c, x)
	want := counted(imageOf(t, c), x, api.OK)
	does(&want)
	if got := alone(t, c, x); got != api.OK {
		t.Errorf("%s: %d", name, got)
	}
	wantImage(t, name, c, want)
}

// The chapter's example.
func TestExample(t *testing.T) {
	c := made(t, 1, 9, 0, 0)
	if e := c.Submit(court.Tx{Kind: court.Send, To: 1, Amount: 5, Fee: 2}); e != api.OK {
		t.Errorf("P15.2: Submit: %d", e)
	}
	if l, e := c.Block(0); e != api.OK || !slices.Equal(l, []api.Errno{api.OK}) {
		t.Errorf("P15.2: Block(0): %v, %d", l, e)
	}
	if c.Has(0) != 2 || c.Has(1) != 5 || c.Has(2) != 2 {
		t.Errorf("P15.2: %d, %d, %d", c.Has(0), c.Has(1), c.Has(2))
	}
}

// P15.2: the numbers of the kinds.
func TestNumbers(t *testing.T) {
	got := []int{court.Send, court.Tell, court.Open, court.Put, court.Draw, court.Fight, court.Show, court.End}
	if !slices.Equal(got, []int{0, 1, 2, 3, 4, 5, 6, 7}) {
		t.Errorf("P15.2: the kinds: %d", got)
	}
}

// P15.1: a new court has accounts that have what was handed in, and nothing else.
func TestNew(t *testing.T) {
	full := make([]uint64, 16)
	for who := range full {
		full[who] = uint64(who * who)
	}
	for _, least := range []uint64{0, 1, 7, 1 << 32, top} {
		for _, has := range [][]uint64{{0, 0}, {9, 0, 0}, {5, 3}, full, {top, 0}, {0, top}, {top - 5, 2, 3}, {1 << 63, 1<<63 - 1}} {
			c := made(t, least, has...)
			want := image{has: has, next: make([]uint64, len(has)), least: least, secrets: make([]known, secrets)}
			want.all = sumOf(has...).Uint64()
			wantImage(t, "P15.1: new", c, want)
			if c.Accounts() != len(has) || c.Bonds() != 0 {
				t.Errorf("P15.1: %d accounts, %d bonds", c.Accounts(), c.Bonds())
			}
		}
	}
}

// P15.1: what New refuses, and in which order.
func TestNewWrong(t *testing.T) {
	tops := slices.Repeat([]uint64{top}, 17)
	for _, w := range []struct {
		name string
		has  []uint64
		e    api.Errno
	}{
		{"no account", nil, api.ErrArg},
		{"no account", []uint64{}, api.ErrArg},
		{"one account", []uint64{0}, api.ErrArg},
		{"one account", []uint64{top}, api.ErrArg},
		{"17 accounts", make([]uint64, 17), api.ErrLimit},
		{"1000 accounts", make([]uint64, 1000), api.ErrLimit},
		{"17 accounts that have too much", tops, api.ErrLimit},
		{"16 accounts that have too much", tops[:16], api.ErrOver},
		{"one more than the greatest number", []uint64{top, 1}, api.ErrOver},
		{"one more with the fees' account", []uint64{top - 5, 2, 3, 1}, api.ErrOver},
		{"halves", []uint64{1 << 63, 1 << 63}, api.ErrOver},
	} {
		for _, least := range []uint64{0, 1, top} {
			if c, e := court.New(least, w.has...); e != w.e || c != nil {
				t.Errorf("P15.1: New, %s: %v, %d; want %d", w.name, c, e, w.e)
			}
		}
	}
}

// R3: New neither turns nor keeps what is handed in.
func TestNewKeepsNothing(t *testing.T) {
	has := []uint64{50, 30, 20, 77}
	c := made(t, 1, has[:3]...)
	must(t, c, court.Tx{From: 0, To: 1, Amount: 4})
	if !slices.Equal(has, []uint64{50, 30, 20, 77}) {
		t.Errorf("R3: turned: %d", has)
	}
	clear(has)
	if c.Has(0) != 45 || c.Has(1) != 34 || c.Has(2) != 21 {
		t.Errorf("R3: kept: %d, %d, %d", c.Has(0), c.Has(1), c.Has(2))
	}
}

// strangers are no accounts of a court of five.
var strangers = []int{-1, -2, 5, 6, 16, 1 << 32, math.MinInt, math.MaxInt}

// P15.1: accounts that there are, the last one too, and those that there aren't.
func TestAccounts(t *testing.T) {
	c := fresh(t)
	must(t, c, court.Tx{From: 0, To: 1, Amount: 10}, court.Tx{From: 0, To: 2, Amount: 1, Fee: 5}, court.Tx{From: 3, To: taker, Amount: 9})
	if c.Accounts() != 5 || c.All() != 1007 || c.Kept() != 0 || c.Least() != least {
		t.Errorf("P15.1: %d accounts, %d in all, %d kept, least %d", c.Accounts(), c.All(), c.Kept(), c.Least())
	}
	for who, want := range [][2]uint64{{82, 2}, {210, 0}, {301, 0}, {389, 1}, {25, 0}} {
		if c.Has(who) != want[0] || c.Next(who) != want[1] {
			t.Errorf("P15.1: %d has %d, next %d; want %d", who, c.Has(who), c.Next(who), want)
		}
	}
	for _, who := range strangers {
		if c.Has(who) != 0 || c.Next(who) != 0 {
			t.Errorf("P15.1: %d has %d, next %d", who, c.Has(who), c.Next(who))
		}
	}
}

// P15.1: the verdicts are those at the height that is.
func TestVerdicts(t *testing.T) {
	c := fresh(t)
	at := func(n, expiry uint64) notary.Verdict { return c.Verdict(cond(n, api.Right, 5, expiry)) }
	for height := range uint64(6) {
		if got := at(1, height); got != notary.Open {
			t.Errorf("P15.1: at the height %d, up to it: %d", height, got)
		}
		if height > 0 && at(1, height-1) != notary.Void {
			t.Errorf("P15.1: at the height %d, up to %d: %d", height, height-1, at(1, height-1))
		}
		pass(t, c, 1)
	}
	must(t, c, court.Tx{Kind: court.Tell, From: 2, Secret: secretOf(1)})
	for range 3 {
		for expiry, want := range map[uint64]notary.Verdict{0: notary.Void, 6: notary.Void, 7: notary.Paid, 8: notary.Paid, top: notary.Paid} {
			if got := at(1, expiry); got != want {
				t.Errorf("P15.1: told at 7, height %d, up to %d: %d; want %d", c.Height(), expiry, got, want)
			}
		}
		if at(2, 100) != notary.Open || at(2, 3) != notary.Void {
			t.Errorf("P15.1: not told: %d, %d", at(2, 100), at(2, 3))
		}
		pass(t, c, 1)
	}
}

// P15.1: bonds by their numbers, and those that there aren't.
func TestBondAsked(t *testing.T) {
	c := fresh(t)
	for many := range uint32(3) {
		for _, id := range []uint32{many, many + 1, 16, 255, 256, 1 << 16, 1 << 31, math.MaxUint32} {
			if b, ok := c.Bond(id); ok || !reflect.DeepEqual(bareBond(b), bond.Bond{}) {
				t.Errorf("P15.1: of %d bonds, Bond(%d): %v, %v", many, id, b, ok)
			}
		}
		if c.Bonds() != int(many) {
			t.Errorf("P15.1: %d bonds; want %d", c.Bonds(), many)
		}
		must(t, c, court.Tx{Kind: court.Open, From: int(many), To: int(many) + 1, Amount: 10 * uint64(many), Roots: roots()})
	}
	for id := range uint32(3) {
		b, ok := c.Bond(id)
		if !ok || b.Id != id || b.Who != [2]int{int(id), int(id) + 1} || b.Put != [2]uint64{10 * uint64(id), 0} {
			t.Errorf("P15.1: Bond(%d): %v, %v", id, b, ok)
		}
	}
	if c.Locked() != 30 {
		t.Errorf("P15.1: Locked: %d", c.Locked())
	}
}

// someOrders are orders of all kinds, and of some that there aren't.
func someOrders(t *testing.T) []court.Tx {
	t.Helper()
	d := signed(t, api.State{Round: 3, Taken: [2]uint64{1, 0}, Conds: []api.Cond{cond(1, 0, 1, 9)}})
	l := []court.Tx{}
	for _, kind := range []int{0, 1, 2, 3, 4, 5, 6, 7, 8, -1, math.MaxInt, math.MinInt} {
		for _, who := range []int{0, 1, taker, -1, math.MaxInt, math.MinInt} {
			x := court.Tx{Kind: kind, From: 0, To: who, Amount: 3, Fee: least, Roots: roots(), Rule: []byte{0}, Deed: d, Secret: secretOf(1)}
			l = append(l, x)
			x.From, x.To, x.Amount, x.Fee, x.Nonce, x.Bond = who, 1, top, top, top, math.MaxUint32
			l = append(l, x)
		}
	}
	return l
}

// P15.1, P15.2, R1: a nil court tells nothing, and takes nothing.
func TestNil(t *testing.T) {
	var c *court.Court
	wantImage(t, "P15.1: a nil court", c, image{secrets: make([]known, secrets)})
	if c.Accounts() != 0 || c.Bonds() != 0 || len(c.Pool()) != 0 || len(c.Events()) != 0 || c.Locked() != 0 {
		t.Errorf("P15.1: a nil court: %d, %d, %d, %d, %d", c.Accounts(), c.Bonds(), len(c.Pool()), len(c.Events()), c.Locked())
	}
	for _, who := range append([]int{0, 1, 4}, strangers...) {
		if c.Has(who) != 0 || c.Next(who) != 0 {
			t.Errorf("P15.1: a nil court: %d has %d, next %d", who, c.Has(who), c.Next(who))
		}
	}
	for _, expiry := range []uint64{0, 1, top} {
		if got := c.Verdict(cond(1, 0, 1, expiry)); got != notary.Open {
			t.Errorf("P15.1: a nil court's verdict, up to %d: %d", expiry, got)
		}
	}
	for _, id := range []uint32{0, 1, math.MaxUint32} {
		if b, ok := c.Bond(id); ok || !reflect.DeepEqual(bareBond(b), bond.Bond{}) {
			t.Errorf("P15.1: a nil court's Bond(%d): %v, %v", id, b, ok)
		}
	}
	for _, x := range append(someOrders(t), court.Tx{}) {
		if e := c.Submit(x); e != api.ErrNil {
			t.Errorf("P15.2: Submit to a nil court: %d", e)
		}
	}
	for _, picks := range [][]int{nil, {0}, {-1}, {0, 0}, {64}, {math.MinInt}} {
		if l, e := c.Block(picks...); e != api.ErrNil || len(l) != 0 {
			t.Errorf("P15.2: Block(%d) of a nil court: %v, %d", picks, l, e)
		}
	}
}

// R1: nothing panics, of a court that New didn't make either.
func TestNoPanic(t *testing.T) {
	for _, c := range []*court.Court{nil, new(court.Court), fresh(t)} {
		for _, x := range append(someOrders(t), court.Tx{}, court.Tx{Kind: court.Fight, Deed: deed.Deed{State: api.State{Round: top, Conds: make([]api.Cond, 300)}}, Rule: make([]byte, 1000), Roots: deed.Roots{Tall: math.MinInt}}) {
			c.Submit(x)
			c.Block(0, -1)
			c.Block(math.MaxInt)
			c.Block(make([]int, 1000)...)
			c.Block(0)
			c.Block()
		}
		imageOf(t, c)
	}
}

// P15.1: a state that the court hands out is one by layer 12.
func TestFirstBest(t *testing.T) {
	c := fresh(t)
	must(t, c, court.Tx{Kind: court.Open, From: 0, To: 1, Roots: roots()}, court.Tx{Kind: court.Open, From: 0, To: 1, Roots: roots()})
	for id := range uint32(2) {
		if b, _ := c.Bond(id); !pact.Same(b.Best, pact.New(id)) || b.Phase != bond.Live {
			t.Errorf("P15.2: the bond %d: %v", id, b)
		}
	}
}
