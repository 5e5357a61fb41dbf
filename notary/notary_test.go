package notary_test

import (
	"bytes"
	"math"
	"math/rand"
	"slices"
	"testing"

	"tollhouse/api"
	"tollhouse/mill"
	"tollhouse/notary"
)

const top = math.MaxUint64

// secretOf is one of many unlike secrets.
func secretOf(n int) api.Secret {
	return api.Secret{byte(n), byte(n >> 8), 31: byte(n)}
}

func hashOf(n int) api.Hash { return mill.Lock(secretOf(n)) }

// told is a secret by its number, and a height.
type told struct {
	n      int
	height uint64
}

// made is a notary to whom all this was told, each secret for the first time.
func made(t *testing.T, l ...told) *notary.Notary {
	t.Helper()
	n := notary.New()
	if n == nil {
		t.Fatal("P10.1: New answers nil")
	}
	for _, x := range l {
		if e := n.Tell(secretOf(x.n), x.height); e != api.OK {
			t.Fatalf("P10.1: Tell %d at %d: %d", x.n, x.height, e)
		}
	}
	return n
}

// wantTold holds what is written down of one secret against the height at which it was told.
func wantTold(t *testing.T, name string, n *notary.Notary, x told) {
	t.Helper()
	if at, ok := n.When(hashOf(x.n)); at != x.height || !ok {
		t.Errorf("P10.1: %s: When of %d: %d, %v; want %d", name, x.n, at, ok, x.height)
	}
	if s, ok := n.Secret(hashOf(x.n)); s != secretOf(x.n) || !ok {
		t.Errorf("P10.1: %s: Secret of %d: %x, %v", name, x.n, s, ok)
	}
}

// wantUntold: nothing is written down of a hash.
func wantUntold(t *testing.T, name string, n *notary.Notary, h api.Hash) {
	t.Helper()
	if at, ok := n.When(h); at != 0 || ok {
		t.Errorf("P10.1: %s: When: %d, %v; want 0, false", name, at, ok)
	}
	if s, ok := n.Secret(h); s != (api.Secret{}) || ok {
		t.Errorf("P10.1: %s: Secret: %x, %v; want zero, false", name, s, ok)
	}
	for _, expiry := range []uint64{0, 1, top} {
		if n.In(h, expiry) {
			t.Errorf("P10.1: %s: In at %d", name, expiry)
		}
	}
}

// wantBook holds a whole book against what was told.
func wantBook(t *testing.T, name string, n *notary.Notary, l ...told) {
	t.Helper()
	var hashes []api.Hash
	for _, x := range l {
		wantTold(t, name, n, x)
		hashes = append(hashes, hashOf(x.n))
	}
	slices.SortFunc(hashes, func(a, b api.Hash) int { return bytes.Compare(a[:], b[:]) })
	if n.Many() != len(l) || !slices.Equal(n.Hashes(), hashes) {
		t.Errorf("P10.1: %s: %d hashes: %x; want %d: %x", name, n.Many(), n.Hashes(), len(l), hashes)
	}
}

// P10.1: an empty book.
func TestNew(t *testing.T) {
	n := made(t)
	wantBook(t, "new", n)
	wantUntold(t, "new", n, hashOf(0))
	wantUntold(t, "new, the zero hash", n, api.Hash{})
	made(t, told{1, 5})
	wantBook(t, "another one", n)
}

// P10.1: what is told is written down, at whatever height, in whatever order.
func TestTell(t *testing.T) {
	for _, l := range [][]told{
		{{1, 5}},
		{{1, 0}},
		{{1, top}},
		{{1, 5}, {2, 5}},
		{{1, 5}, {2, 6}, {3, 4}},
		{{3, 0}, {2, top}, {1, 1 << 32}, {0, 1 << 63}, {256, 1<<32 - 1}},
	} {
		wantBook(t, "told", made(t, l...), l...)
	}
	zero := notary.New()
	if e := zero.Tell(api.Secret{}, 7); e != api.OK {
		t.Errorf("P10.1: the zero secret: %d", e)
	}
	if at, ok := zero.When(mill.Lock(api.Secret{})); at != 7 || !ok || zero.Many() != 1 {
		t.Errorf("P10.1: the zero secret: %d, %v", at, ok)
	}
}

// P10.1: a secret is told once; what was written first stays, whether told again at a lower height or a higher one.
func TestTellTwice(t *testing.T) {
	for _, c := range []struct{ first, again uint64 }{{5, 5}, {5, 4}, {5, 6}, {5, 0}, {5, top}, {0, 0}, {0, 1}, {0, top}, {top, top}, {top, top - 1}, {top, 0}} {
		n := made(t, told{1, c.first}, told{2, 3})
		for range 2 {
			if e := n.Tell(secretOf(1), c.again); e != api.ErrTwice {
				t.Errorf("P10.1: told at %d, and at %d: %d", c.first, c.again, e)
			}
		}
		wantBook(t, "told twice", n, told{1, c.first}, told{2, 3})
		if n.In(hashOf(1), c.first) != true || c.first > 0 && n.In(hashOf(1), c.first-1) {
			t.Errorf("P10.1: told at %d, and at %d: In", c.first, c.again)
		}
	}
}

// P10.1: a hash that wasn't told, be it ever so near to one that was.
func TestUntold(t *testing.T) {
	n := made(t, told{1, 5}, told{2, 0})
	wantUntold(t, "another one", n, hashOf(3))
	wantUntold(t, "the zero hash", n, api.Hash{})
	wantUntold(t, "the secret itself", n, api.Hash(secretOf(1)))
	for at := range 32 {
		near := hashOf(1)
		near[at] ^= 1
		wantUntold(t, "unlike in one byte", n, near)
	}
}

// P10.1: In counts the height itself.
func TestIn(t *testing.T) {
	for _, c := range []struct {
		at, expiry uint64
		want       bool
	}{
		{5, 5, true}, {5, 4, false}, {5, 6, true}, {5, 0, false}, {5, top, true},
		{0, 0, true}, {0, 1, true}, {0, top, true},
		{1, 0, false},
		{top, top, true}, {top, top - 1, false}, {top, 0, false}, {top - 1, top, true},
		{1 << 63, 1<<63 - 1, false}, {1<<63 - 1, 1 << 63, true}, {1 << 32, 1, false},
	} {
		if got := made(t, told{1, c.at}).In(hashOf(1), c.expiry); got != c.want {
			t.Errorf("P10.1: told at %d: In at %d: %v", c.at, c.expiry, got)
		}
	}
}

// P10.1: many hashes come rising, in whatever order they were told.
func TestHashes(t *testing.T) {
	var l []told
	for i := range 2000 {
		l = append(l, told{i, uint64(i * 7 % 13)})
	}
	rand.New(rand.NewSource(10)).Shuffle(len(l), func(i, j int) { l[i], l[j] = l[j], l[i] })
	n := made(t, l...)
	wantBook(t, "many", n, l...)
	first := n.Hashes()
	for range 5 {
		if !slices.Equal(n.Hashes(), first) {
			t.Error("R5: Hashes twice, two answers")
		}
	}
}

// R3: what is handed out is new memory, its spare room too.
func TestHandedOut(t *testing.T) {
	n := made(t, told{1, 5}, told{2, 6}, told{3, 7})
	a := n.Hashes()
	want := slices.Clone(a)
	b := n.Hashes()
	clear(a[:cap(a)])
	if !slices.Equal(b, want) || !slices.Equal(n.Hashes(), want) {
		t.Error("R3: Hashes share memory")
	}
	conds := []api.Cond{{Hash: hashOf(1), Expiry: 5}, {Hash: hashOf(2), Expiry: 5}, {Hash: hashOf(3), Expiry: 99}}
	before := slices.Clone(conds)
	x := n.All(6, conds[:2]...)
	y := n.All(6, conds[:2]...)
	clear(x[:cap(x)])
	if !slices.Equal(y, []notary.Verdict{notary.Paid, notary.Void}) {
		t.Errorf("R3: All shares memory: %v", y)
	}
	if !slices.Equal(conds, before) {
		t.Error("R3: an argument, or the room behind it, was changed")
	}
}

// P10.1: a twin is alike, and both go their own ways.
func TestTwin(t *testing.T) {
	n := made(t, told{1, 5}, told{2, 0})
	twin := n.Twin()
	if twin == nil || twin == n {
		t.Fatal("P10.1: Twin is none")
	}
	wantBook(t, "twin", twin, told{1, 5}, told{2, 0})
	if e := twin.Tell(secretOf(1), 3); e != api.ErrTwice {
		t.Errorf("P10.1: a twin is told the same: %d", e)
	}
	if e := twin.Tell(secretOf(3), 9); e != api.OK {
		t.Errorf("P10.1: a twin is told another one: %d", e)
	}
	wantBook(t, "the first one", n, told{1, 5}, told{2, 0})
	if n.Tell(secretOf(3), 11) != api.OK || n.Tell(secretOf(4), 12) != api.OK {
		t.Error("P10.1: the first one is told more")
	}
	wantBook(t, "its twin", twin, told{1, 5}, told{2, 0}, told{3, 9})
	wantBook(t, "the first one, later on", n, told{1, 5}, told{2, 0}, told{3, 11}, told{4, 12})
	none := made(t).Twin()
	wantBook(t, "a twin of an empty one", none)
	if e := none.Tell(secretOf(1), 1); e != api.OK {
		t.Errorf("P10.1: a twin of an empty one is told: %d", e)
	}
	wantBook(t, "a twin of an empty one", none, told{1, 1})
}

// P10.2: the verdicts' numbers.
func TestVerdicts(t *testing.T) {
	if notary.Open != 0 || notary.Paid != 1 || notary.Void != 2 {
		t.Errorf("P10.2: %d, %d, %d", notary.Open, notary.Paid, notary.Void)
	}
}

// P10.2: the verdict on one payment.
func TestOf(t *testing.T) {
	const untold = -1
	type at struct {
		height uint64
		want   notary.Verdict
	}
	for _, c := range []struct {
		name   string
		told   int
		expiry uint64
		at     []at
	}{
		{"told at the expiry", 5, 5, []at{{0, notary.Paid}, {4, notary.Paid}, {5, notary.Paid}, {6, notary.Paid}, {top, notary.Paid}}},
		{"told one lower", 4, 5, []at{{0, notary.Paid}, {4, notary.Paid}, {5, notary.Paid}, {6, notary.Paid}, {top, notary.Paid}}},
		{"told one higher", 6, 5, []at{{0, notary.Open}, {5, notary.Open}, {6, notary.Void}, {7, notary.Void}, {top, notary.Void}}},
		{"not told", untold, 5, []at{{0, notary.Open}, {4, notary.Open}, {5, notary.Open}, {6, notary.Void}, {top, notary.Void}}},
		{"told at 0, the expiry 0", 0, 0, []at{{0, notary.Paid}, {1, notary.Paid}, {top, notary.Paid}}},
		{"told at 1, the expiry 0", 1, 0, []at{{0, notary.Open}, {1, notary.Void}, {top, notary.Void}}},
		{"not told, the expiry 0", untold, 0, []at{{0, notary.Open}, {1, notary.Void}, {top, notary.Void}}},
		{"told at 7, the greatest expiry", 7, top, []at{{0, notary.Paid}, {7, notary.Paid}, {top, notary.Paid}}},
		{"not told, the greatest expiry", untold, top, []at{{0, notary.Open}, {top - 1, notary.Open}, {top, notary.Open}}},
		{"not told, the expiry one below the greatest", untold, top - 1, []at{{top - 1, notary.Open}, {top, notary.Void}}},
		{"not told, halves", untold, 1<<63 - 1, []at{{1<<63 - 1, notary.Open}, {1 << 63, notary.Void}}},
	} {
		n := made(t, told{9, 0})
		if c.told != untold {
			n = made(t, told{9, 0}, told{1, uint64(c.told)})
		}
		for _, x := range c.at {
			if got := n.Of(api.Cond{Hash: hashOf(1), Expiry: c.expiry}, x.height); got != x.want {
				t.Errorf("P10.2: %s, at %d: %d; want %d", c.name, x.height, got, x.want)
			}
		}
	}
	last := made(t, told{1, top})
	if last.Of(api.Cond{Hash: hashOf(1), Expiry: top}, top) != notary.Paid || last.Of(api.Cond{Hash: hashOf(1), Expiry: top - 1}, top) != notary.Void || last.Of(api.Cond{Hash: hashOf(1), Expiry: top - 1}, top-1) != notary.Open {
		t.Error("P10.2: told at the greatest height")
	}
}

// P10.2: nothing else of a payment counts than its hash and its expiry.
func TestOfNothingElse(t *testing.T) {
	n := made(t, told{1, 5})
	c := api.Cond{Id: top, By: -7, Amount: 0, Hash: hashOf(1), Expiry: 5}
	if n.Of(c, 9) != notary.Paid {
		t.Errorf("P10.2: %d", n.Of(c, 9))
	}
	c.Expiry, c.By, c.Amount = 4, 2, top
	if n.Of(c, 4) != notary.Open || n.Of(c, 5) != notary.Void {
		t.Errorf("P10.2: %d, %d", n.Of(c, 4), n.Of(c, 5))
	}
}

// P10.2: the verdicts on none, one and many, in order.
func TestAll(t *testing.T) {
	n := made(t, told{1, 5}, told{2, 6})
	if l := n.All(5); len(l) != 0 {
		t.Errorf("P10.2: of no payments: %v", l)
	}
	var none []api.Cond
	if l := n.All(5, none...); len(l) != 0 {
		t.Errorf("P10.2: of a nil list: %v", l)
	}
	if l := n.All(6, api.Cond{Hash: hashOf(3), Expiry: 5}); !slices.Equal(l, []notary.Verdict{notary.Void}) {
		t.Errorf("P10.2: of one: %v", l)
	}
	conds := []api.Cond{{Hash: hashOf(1), Expiry: 5}, {Hash: hashOf(2), Expiry: 5}, {Hash: hashOf(3), Expiry: 5}, {Hash: hashOf(2), Expiry: 6}, {Hash: hashOf(1), Expiry: 4}, {Hash: hashOf(1), Expiry: 5}}
	for _, c := range []struct {
		height uint64
		want   []notary.Verdict
	}{
		{4, []notary.Verdict{notary.Paid, notary.Open, notary.Open, notary.Paid, notary.Open, notary.Paid}},
		{5, []notary.Verdict{notary.Paid, notary.Open, notary.Open, notary.Paid, notary.Void, notary.Paid}},
		{6, []notary.Verdict{notary.Paid, notary.Void, notary.Void, notary.Paid, notary.Void, notary.Paid}},
	} {
		if l := n.All(c.height, conds...); !slices.Equal(l, c.want) {
			t.Errorf("P10.2: at %d: %v; want %v", c.height, l, c.want)
		}
	}
	many := make([]api.Cond, 1000)
	for i := range many {
		many[i] = api.Cond{Hash: hashOf(i % 4), Expiry: uint64(i % 9)}
	}
	l := n.All(6, many...)
	if len(l) != len(many) {
		t.Fatalf("P10.2: of many: %d", len(l))
	}
	for i, c := range many {
		if l[i] != n.Of(c, 6) {
			t.Errorf("P10.2: of many, %d: %d", i, l[i])
		}
	}
}

// R1, P10.1, P10.2: a nil notary was told nothing, and can't be told anything.
func TestNil(t *testing.T) {
	var n *notary.Notary
	for range 2 {
		if e := n.Tell(secretOf(1), 5); e != api.ErrNil {
			t.Errorf("R1: Tell: %d", e)
		}
	}
	wantUntold(t, "nil", n, hashOf(1))
	if n.Many() != 0 || len(n.Hashes()) != 0 {
		t.Errorf("R1: nil: %d, %x", n.Many(), n.Hashes())
	}
	if n.Twin() != nil {
		t.Error("P10.1: a twin of nil")
	}
	open := api.Cond{Hash: hashOf(1), Expiry: 5}
	if n.Of(open, 0) != notary.Open || n.Of(open, 5) != notary.Open || n.Of(open, 6) != notary.Void {
		t.Errorf("P10.2: nil: %d, %d, %d", n.Of(open, 0), n.Of(open, 5), n.Of(open, 6))
	}
	if l := n.All(6, open, api.Cond{Expiry: 6}); !slices.Equal(l, []notary.Verdict{notary.Void, notary.Open}) {
		t.Errorf("P10.2: nil: %v", l)
	}
	if l := n.All(6); len(l) != 0 {
		t.Errorf("P10.2: nil, of no payments: %v", l)
	}
}

// R1: one that New didn't make doesn't panic.
func TestZero(t *testing.T) {
	var n, twin notary.Notary
	n.Many()
	n.Hashes()
	n.Of(api.Cond{}, 1)
	n.Tell(secretOf(1), 1)
	n.Tell(secretOf(1), 1)
	twin.Twin().Tell(secretOf(2), 2)
}

// P10.3: heights never fall, and secrets are told at the height that is: a verdict that isn't open never turns.
func TestNeverTurns(t *testing.T) {
	r := rand.New(rand.NewSource(3))
	for range 200 {
		n := notary.New()
		height := uint64(r.Intn(3))
		if r.Intn(4) == 0 {
			height = top - uint64(r.Intn(40))
		}
		first := height
		conds := make([]api.Cond, 30)
		for i := range conds {
			conds[i] = api.Cond{Hash: hashOf(r.Intn(12)), Expiry: first + min(uint64(r.Intn(25)), top-first)}
		}
		before := n.All(height, conds...)
		for range 60 {
			if r.Intn(2) == 0 && height < top {
				height++
			} else {
				n.Tell(secretOf(r.Intn(12)), height)
			}
			now := n.All(height, conds...)
			for i := range conds {
				if before[i] != notary.Open && now[i] != before[i] {
					t.Fatalf("P10.3: at %d, the expiry %d: %d, and then %d", height, conds[i].Expiry, before[i], now[i])
				}
			}
			before = now
		}
	}
}
