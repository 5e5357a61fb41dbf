package till_test

import (
	"math"
	"math/big"
	"math/rand"
	"slices"
	"testing"

	"tollhouse/api"
	"tollhouse/till"
)

const top = math.MaxUint64

// image is all that a till tells.
type image struct {
	has, next []uint64
	kept, all uint64
}

func imageOf(t *till.Till) image {
	var s image
	for who := range t.Many() {
		s.has, s.next = append(s.has, t.Has(who)), append(s.next, t.Next(who))
	}
	s.kept, s.all = t.Kept(), t.All()
	return s
}

func same(a, b image) bool {
	return slices.Equal(a.has, b.has) && slices.Equal(a.next, b.next) && a.kept == b.kept && a.all == b.all
}

// made is a till that must come to be.
func made(t *testing.T, has ...uint64) *till.Till {
	t.Helper()
	x, e := till.New(has...)
	if e != api.OK || x == nil {
		t.Fatalf("P9.1: %v: %d", has, e)
	}
	return x
}

// want holds a till against what its accounts have, and what is kept.
func want(t *testing.T, name string, x *till.Till, kept uint64, has ...uint64) {
	t.Helper()
	got := imageOf(x)
	all := kept
	for _, a := range has {
		all += a
	}
	if !slices.Equal(got.has, has) || got.kept != kept || got.all != all {
		t.Errorf("P9.1, P9.2: %s: %v; want %v, %d kept", name, got, has, kept)
	}
}

// The chapter's example.
func TestExample(t *testing.T) {
	x := made(t, 5, 3)
	if a, b := x.Keep(0, 2), x.Give(1, 1); a != api.OK || b != api.OK {
		t.Errorf("P9.2: %d, %d", a, b)
	}
	want(t, "the example", x, 1, 3, 4)
}

// P9.1: accounts have what was handed in, and no orders.
func TestNew(t *testing.T) {
	full := make([]uint64, 16)
	for i := range full {
		full[i] = uint64(i * i)
	}
	for _, has := range [][]uint64{nil, {}, {0}, {7}, {5, 3}, {0, 0, 9}, full, {top}, {0, top}, {top - 5, 2, 3}, {1 << 63, 1<<63 - 1}} {
		x := made(t, has...)
		want(t, "new", x, 0, has...)
		if x.Many() != len(has) {
			t.Errorf("P9.1: %v: %d accounts", has, x.Many())
		}
		for who := range has {
			if x.Next(who) != 0 {
				t.Errorf("P9.1: %v: the next order of %d: %d", has, who, x.Next(who))
			}
		}
	}
}

// P9.1: too many accounts, then too much.
func TestNewWrong(t *testing.T) {
	tops := make([]uint64, 17)
	for i := range tops {
		tops[i] = top
	}
	for _, c := range []struct {
		name string
		has  []uint64
		e    api.Errno
	}{
		{"17 accounts", make([]uint64, 17), api.ErrLimit},
		{"1000 accounts", make([]uint64, 1000), api.ErrLimit},
		{"17 accounts that have too much", tops, api.ErrLimit},
		{"16 accounts that have too much", tops[:16], api.ErrOver},
		{"one more than the greatest number", []uint64{top, 1}, api.ErrOver},
		{"the last one", []uint64{top - 5, 2, 3, 1}, api.ErrOver},
		{"halves", []uint64{1 << 63, 1 << 63}, api.ErrOver},
		{"it would come round to little", []uint64{top, top, 3}, api.ErrOver},
	} {
		if x, e := till.New(c.has...); e != c.e || x != nil {
			t.Errorf("P9.1: %s: %v, %d; want %d", c.name, x, e, c.e)
		}
	}
}

// R3: what is handed in is neither turned nor kept.
func TestNewKeepsNothing(t *testing.T) {
	has := []uint64{5, 3, 77}
	x := made(t, has[:2]...)
	if e := x.Move(0, 1, 4); e != api.OK {
		t.Errorf("P9.2: %d", e)
	}
	if !slices.Equal(has, []uint64{5, 3, 77}) {
		t.Errorf("R3: turned: %v", has)
	}
	has[0], has[1] = 100, 100
	want(t, "kept on its own", x, 0, 1, 7)
}

// strangers are no accounts of a till of two.
var strangers = []int{-1, 2, 16, math.MinInt, math.MaxInt}

// P9.1, P9.2: an account that there isn't: zeros, and ErrArg, as first and as second one.
func TestNoSuchAccount(t *testing.T) {
	x := made(t, 5, 3)
	x.Keep(0, 2)
	x.Order(1, 0)
	before := imageOf(x)
	for _, who := range strangers {
		if x.Has(who) != 0 || x.Next(who) != 0 {
			t.Errorf("P9.1: %d has %d, next %d", who, x.Has(who), x.Next(who))
		}
		for name, e := range map[string]api.Errno{
			"order, the number 0":       x.Order(who, 0),
			"order, a wrong number":     x.Order(who, 9),
			"keep":                      x.Keep(who, 1),
			"keep nothing":              x.Keep(who, 0),
			"keep too much":             x.Keep(who, top),
			"give":                      x.Give(who, 1),
			"give nothing":              x.Give(who, 0),
			"give too much":             x.Give(who, top),
			"move from it":              x.Move(who, 0, 1),
			"move to it":                x.Move(0, who, 1),
			"move to it too much":       x.Move(0, who, top),
			"move nothing to it":        x.Move(0, who, 0),
			"move from it to itself":    x.Move(who, who, 0),
			"move from it to a far one": x.Move(who, 99, 1),
		} {
			if e != api.ErrArg {
				t.Errorf("P9.2: %s, %d: %d", name, who, e)
			}
		}
	}
	if !same(imageOf(x), before) {
		t.Errorf("R2: it turned: %v; before %v", imageOf(x), before)
	}
	none := made(t)
	if none.Keep(0, 0) != api.ErrArg || none.Give(0, 0) != api.ErrArg || none.Order(0, 0) != api.ErrArg || none.Move(0, 0, 0) != api.ErrArg || none.Has(0) != 0 || none.Next(0) != 0 {
		t.Error("P9.2: no accounts at all")
	}
}

// P9.2: orders count one by one, for each account on its own.
func TestOrder(t *testing.T) {
	x := made(t, 5, 3, 1)
	for n := range uint64(5) {
		for _, wrong := range []uint64{n + 1, n + 2, n - 1, top - n, 1 << 63, n + 1<<32} {
			if e := x.Order(1, wrong); e != api.ErrNonce {
				t.Errorf("P9.2: %d for %d: %d", wrong, n, e)
			}
		}
		if x.Next(1) != n {
			t.Errorf("P9.2: the next one is %d; want %d", x.Next(1), n)
		}
		if e := x.Order(1, n); e != api.OK || x.Next(1) != n+1 {
			t.Errorf("P9.2: %d: %d, next %d", n, e, x.Next(1))
		}
	}
	if x.Next(0) != 0 || x.Next(2) != 0 || x.Order(2, 5) != api.ErrNonce || x.Order(2, 0) != api.OK || x.Next(2) != 1 || x.Next(1) != 5 {
		t.Errorf("P9.2: %d, %d, %d", x.Next(0), x.Next(1), x.Next(2))
	}
	want(t, "orders cost nothing", x, 0, 5, 3, 1)
}

// does is one call on a till, and what must come of it.
type does struct {
	name string
	call func(x *till.Till) api.Errno
	e    api.Errno
	kept uint64
	has  []uint64
}

func walk(t *testing.T, x *till.Till, l ...does) {
	t.Helper()
	for _, d := range l {
		if e := d.call(x); e != d.e {
			t.Errorf("P9.2: %s: %d; want %d", d.name, e, d.e)
		}
		want(t, d.name, x, d.kept, d.has...)
	}
}

func keep(who int, amount uint64) func(*till.Till) api.Errno {
	return func(x *till.Till) api.Errno { return x.Keep(who, amount) }
}

func give(who int, amount uint64) func(*till.Till) api.Errno {
	return func(x *till.Till) api.Errno { return x.Give(who, amount) }
}

func move(from, to int, amount uint64) func(*till.Till) api.Errno {
	return func(x *till.Till) api.Errno { return x.Move(from, to, amount) }
}

// P9.2: all, and one more.
func TestKeepAndGive(t *testing.T) {
	walk(t, made(t, 5, 3),
		does{"give of nothing kept", give(0, 1), api.ErrUnder, 0, []uint64{5, 3}},
		does{"give nothing of nothing", give(0, 0), api.OK, 0, []uint64{5, 3}},
		does{"keep nothing", keep(0, 0), api.OK, 0, []uint64{5, 3}},
		does{"keep one more than all", keep(0, 6), api.ErrUnder, 0, []uint64{5, 3}},
		does{"keep what both have", keep(1, 8), api.ErrUnder, 0, []uint64{5, 3}},
		does{"keep the greatest number", keep(0, top), api.ErrUnder, 0, []uint64{5, 3}},
		does{"keep all", keep(0, 5), api.OK, 5, []uint64{0, 3}},
		does{"keep of none", keep(0, 1), api.ErrUnder, 5, []uint64{0, 3}},
		does{"keep of the other one, too", keep(1, 2), api.OK, 7, []uint64{0, 1}},
		does{"give one more than is kept", give(1, 8), api.ErrUnder, 7, []uint64{0, 1}},
		does{"give the greatest number", give(1, top), api.ErrUnder, 7, []uint64{0, 1}},
		does{"give some to whom it didn't belong", give(1, 6), api.OK, 1, []uint64{0, 7}},
		does{"give all that is left", give(0, 1), api.OK, 0, []uint64{1, 7}},
		does{"give one more", give(0, 1), api.ErrUnder, 0, []uint64{1, 7}})
	walk(t, made(t, top-3, 3),
		does{"keep all of the first one", keep(0, top-3), api.OK, top - 3, []uint64{0, 3}},
		does{"keep all of the second one", keep(1, 3), api.OK, top, []uint64{0, 0}},
		does{"give all to the second one", give(1, top), api.OK, 0, []uint64{0, top}})
}

// P9.2: all, one more, to itself.
func TestMove(t *testing.T) {
	walk(t, made(t, 5, 3, 0),
		does{"move nothing", move(0, 1, 0), api.OK, 0, []uint64{5, 3, 0}},
		does{"move one more than all", move(0, 1, 6), api.ErrUnder, 0, []uint64{5, 3, 0}},
		does{"move the greatest number", move(1, 0, top), api.ErrUnder, 0, []uint64{5, 3, 0}},
		does{"move some", move(0, 1, 2), api.OK, 0, []uint64{3, 5, 0}},
		does{"move all", move(1, 2, 5), api.OK, 0, []uint64{3, 0, 5}},
		does{"move of none", move(1, 2, 1), api.ErrUnder, 0, []uint64{3, 0, 5}},
		does{"keep some", keep(2, 2), api.OK, 2, []uint64{3, 0, 3}},
		does{"what is kept isn't moved", move(2, 0, 4), api.ErrUnder, 2, []uint64{3, 0, 3}},
		does{"some to itself", move(2, 2, 1), api.OK, 2, []uint64{3, 0, 3}},
		does{"all to itself", move(0, 0, 3), api.OK, 2, []uint64{3, 0, 3}},
		does{"nothing to itself", move(1, 1, 0), api.OK, 2, []uint64{3, 0, 3}},
		does{"one more than all to itself", move(0, 0, 4), api.ErrUnder, 2, []uint64{3, 0, 3}},
		does{"the greatest number to itself", move(0, 0, top), api.ErrUnder, 2, []uint64{3, 0, 3}})
	walk(t, made(t, top, 0),
		does{"all to itself", move(0, 0, top), api.OK, 0, []uint64{top, 0}},
		does{"all there", move(0, 1, top), api.OK, 0, []uint64{0, top}},
		does{"half back", move(1, 0, 1<<63), api.OK, 0, []uint64{1 << 63, 1<<63 - 1}})
}

// R2: what one call moves doesn't touch the numbers of orders.
func TestOrdersStay(t *testing.T) {
	x := made(t, 5, 3)
	x.Order(0, 0)
	x.Order(0, 1)
	x.Order(1, 0)
	x.Keep(0, 2)
	x.Give(1, 1)
	x.Move(1, 0, 2)
	x.Move(1, 0, 99)
	if x.Next(0) != 2 || x.Next(1) != 1 {
		t.Errorf("P9.2: %d, %d", x.Next(0), x.Next(1))
	}
}

// R1: a nil till.
func TestNil(t *testing.T) {
	var x *till.Till
	if x.Many() != 0 || x.Kept() != 0 || x.All() != 0 {
		t.Errorf("R1: %d, %d, %d", x.Many(), x.Kept(), x.All())
	}
	for _, who := range append([]int{0, 1}, strangers...) {
		if x.Has(who) != 0 || x.Next(who) != 0 {
			t.Errorf("R1: %d has %d, next %d", who, x.Has(who), x.Next(who))
		}
		for name, e := range map[string]api.Errno{
			"order":                 x.Order(who, 0),
			"order, a wrong number": x.Order(who, 1),
			"keep":                  x.Keep(who, 0),
			"keep some":             x.Keep(who, 1),
			"give":                  x.Give(who, 0),
			"give some":             x.Give(who, 1),
			"move":                  x.Move(who, 0, 0),
			"move to it":            x.Move(0, who, 1),
		} {
			if e != api.ErrNil {
				t.Errorf("R1: %s, %d: %d", name, who, e)
			}
		}
	}
	if x.Twin() != nil {
		t.Error("P9.1: a twin of nil")
	}
}

// P9.1: a twin is alike, and both go their own ways.
func TestTwin(t *testing.T) {
	x := made(t, 5, 3)
	x.Keep(0, 2)
	x.Order(1, 0)
	y := x.Twin()
	before := imageOf(x)
	if y == nil || y == x || !same(imageOf(y), before) {
		t.Fatalf("P9.1: %v; want %v", imageOf(y), before)
	}
	y.Keep(1, 1)
	y.Move(0, 1, 3)
	y.Order(0, 0)
	y.Order(1, 1)
	if !same(imageOf(x), before) {
		t.Errorf("P9.1: it turned with its twin: %v; before %v", imageOf(x), before)
	}
	after := imageOf(y)
	want(t, "the twin", y, 3, 0, 5)
	x.Give(0, 2)
	x.Move(1, 0, 1)
	x.Order(1, 1)
	x.Order(1, 2)
	if !same(imageOf(y), after) {
		t.Errorf("P9.1: the twin turned with it: %v; before %v", imageOf(y), after)
	}
	want(t, "the first one", x, 0, 6, 2)
	if none := made(t).Twin(); none == nil || none.Many() != 0 || none.All() != 0 {
		t.Error("P9.1: a twin of no accounts")
	}
	third := y.Twin().Twin()
	y.Give(0, 3)
	if !same(imageOf(third), after) {
		t.Errorf("P9.1: a twin's twin: %v; want %v", imageOf(third), after)
	}
}

// shadow is a till by the book, of numbers without end.
type shadow struct {
	has  []*big.Int
	kept *big.Int
}

// shifts moves an amount between two of its parts, and says whether that may be.
func (s shadow) shifts(from, to *big.Int, amount uint64) api.Errno {
	a := new(big.Int).SetUint64(amount)
	if from.Cmp(a) < 0 {
		return api.ErrUnder
	}
	from.Sub(from, a)
	to.Add(to, a)
	return api.OK
}

func (s shadow) is(x *till.Till) bool {
	for who, a := range s.has {
		if !a.IsUint64() || a.Uint64() != x.Has(who) {
			return false
		}
	}
	return s.kept.IsUint64() && s.kept.Uint64() == x.Kept()
}

// P9.2, P9.3: calls by chance, held against the book: whatever they are, All never turns.
func TestByChance(t *testing.T) {
	r := rand.New(rand.NewSource(9))
	for range 300 {
		n := 1 + r.Intn(16)
		has, s := make([]uint64, n), shadow{kept: new(big.Int)}
		great := r.Intn(2) == 0
		for i := range has {
			has[i] = uint64(r.Intn(50))
			if great {
				has[i] = top / uint64(n)
			}
			s.has = append(s.has, new(big.Int).SetUint64(has[i]))
		}
		x := made(t, has...)
		all := x.All()
		for range 200 {
			a, b := r.Intn(n), r.Intn(n)
			part := []uint64{x.Has(a), x.Kept()}[r.Intn(2)]
			amount := []uint64{part, part + 1, part / 2, uint64(r.Intn(9)), r.Uint64()}[r.Intn(5)]
			var got, book api.Errno
			switch r.Intn(3) {
			case 0:
				got, book = x.Keep(a, amount), s.shifts(s.has[a], s.kept, amount)
			case 1:
				got, book = x.Give(a, amount), s.shifts(s.kept, s.has[a], amount)
			case 2:
				got, book = x.Move(a, b, amount), s.shifts(s.has[a], s.has[b], amount)
			}
			if got != book || !s.is(x) {
				t.Fatalf("P9.2: %d, %d, %d: %d; want %d: %v", a, b, amount, got, book, imageOf(x))
			}
			if x.All() != all {
				t.Fatalf("P9.3: all was %d, and is %d", all, x.All())
			}
		}
	}
}
