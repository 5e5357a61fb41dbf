package bond_test

import (
	"fmt"
	"math"
	"slices"
	"strings"
	"sync"
	"testing"

	"tollhouse/api"
	"tollhouse/bond"
	"tollhouse/code"
	"tollhouse/deed"
	"tollhouse/mill"
	"tollhouse/notary"
	"tollhouse/pact"
	"tollhouse/ring"
)

const (
	top = math.MaxUint64
	id  = 7
)

// farSides are numbers that are no side.
var farSides = []api.Side{-1, 2, 3, -2, 255, 256, 257, 1 << 32, 1<<32 + 1, math.MinInt, math.MinInt + 1, math.MaxInt}

// keys are both sides' rings, of the greatest height.
var keys = sync.OnceValue(func() [2]*ring.Ring {
	left, _ := ring.New([32]byte{1}, 8)
	right, _ := ring.New([32]byte{2}, 8)
	return [2]*ring.Ring{left, right}
})

func roots() deed.Roots {
	return deed.Roots{Of: [2]api.Digest{keys()[0].Root(), keys()[1].Root()}, Tall: 8}
}

func secretOf(n uint64) api.Secret { return api.Secret{byte(n), byte(n >> 8), 31: 9} }

// cond is a payment whose secret hangs on its Id.
func cond(n uint64, by api.Side, amount, expiry uint64) api.Cond {
	return api.Cond{Id: n, By: by, Amount: amount, Hash: mill.Lock(secretOf(n)), Expiry: expiry}
}

func state(round uint64, moved, taken [2]uint64, l ...api.Cond) api.State {
	return api.State{Channel: id, Round: round, Moved: moved, Taken: taken, Conds: l}
}

// signed is a state that both signed, whatever else they signed of that round.
func signed(t *testing.T, s api.State) deed.Deed {
	t.Helper()
	d := deed.Deed{State: s}
	for side, r := range keys() {
		r.Spend(uint32(s.Round))
		sig, e := deed.Again(r, s)
		if e != api.OK {
			t.Fatalf("the round %d can't be signed: %d", s.Round, e)
		}
		d.Sigs[side] = sig
	}
	return d
}

// taking is a deed of a round in which nothing but that was taken.
func taking(t *testing.T, round, left, right uint64) deed.Deed {
	t.Helper()
	return signed(t, state(round, [2]uint64{}, [2]uint64{left, right}))
}

// rule is the program of some lines.
func rule(t *testing.T, lines ...string) []byte {
	t.Helper()
	p, e := code.Parse(strings.Join(lines, "\n"))
	if e != api.OK {
		t.Fatalf("the rule %v: %d", lines, e)
	}
	return p
}

// twin is a bond alike, not by the package's own call.
func twin(b bond.Bond) bond.Bond {
	b.Rule = append([]byte{}, b.Rule...)
	b.Best.Conds = append([]api.Cond{}, b.Best.Conds...)
	return b
}

func sameState(a, b api.State) bool {
	return a.Channel == b.Channel && a.Round == b.Round && a.Moved == b.Moved && a.Taken == b.Taken && slices.Equal(a.Conds, b.Conds)
}

func same(a, b bond.Bond) bool {
	return a.Id == b.Id && a.Who == b.Who && a.Roots == b.Roots && slices.Equal(a.Rule, b.Rule) && a.Put == b.Put &&
		a.Paid == b.Paid && a.Phase == b.Phase && a.Until == b.Until && sameState(a.Best, b.Best)
}

// wipe turns all memory that a bond has.
func wipe(b bond.Bond) {
	clear(b.Rule[:cap(b.Rule)])
	clear(b.Best.Conds[:cap(b.Best.Conds)])
}

// result is all that a call answers.
type result struct {
	b    bond.Bond
	paid [2]uint64
	e    api.Errno
}

// String leaves out what is seldom turned.
func (r result) String() string {
	return fmt.Sprintf("[error %d, paid %d: bond %d of %d, height %d, rule %x, put %d, paid %d, phase %d, until %d, best %d]",
		r.e, r.paid, r.b.Id, r.b.Who, r.b.Roots.Tall, r.b.Rule, r.b.Put, r.b.Paid, r.b.Phase, r.b.Until, r.b.Best)
}

func sameResult(a, b result) bool { return same(a.b, b.b) && a.paid == b.paid && a.e == b.e }

// act is a call on a bond.
type act func(b bond.Bond) result

func more(side api.Side, amount uint64) act {
	return func(b bond.Bond) result {
		next, e := b.More(side, amount)
		return result{b: next, e: e}
	}
}

func draw(side api.Side, d deed.Deed) act {
	return func(b bond.Bond) result {
		next, due, e := b.Draw(side, d)
		got := result{b: next, e: e}
		got.paid[max(min(side, 1), 0)] = due
		return got
	}
}

func fight(d deed.Deed, height uint64) act {
	return func(b bond.Bond) result {
		next, e := b.Fight(d, height)
		return result{b: next, e: e}
	}
}

func show(d deed.Deed, height uint64) act {
	return func(b bond.Bond) result {
		next, e := b.Show(d, height)
		return result{b: next, e: e}
	}
}

func end(n *notary.Notary, height uint64) act {
	return func(b bond.Bond) result {
		next, out, e := b.End(n, height)
		return result{b: next, paid: out, e: e}
	}
}

// run is what an act answers: the same each time, in new memory, nothing but the error, if there is one, and the bond stays as it was.
func run(t *testing.T, b bond.Bond, do act) result {
	t.Helper()
	before := twin(b)
	got, other := do(b), do(b)
	if !sameResult(got, other) {
		t.Errorf("R5: %v, and then %v", got, other)
	}
	if got.e != api.OK && !sameResult(got, result{e: got.e}) {
		t.Errorf("R2: %v", got)
	}
	keep := twin(got.b)
	wipe(other.b)
	if !same(b, before) || !same(got.b, keep) {
		t.Errorf("R3: the bond, or another answer, was turned with an answer")
	}
	return got
}

// done is a bond behind acts that have no error.
func done(t *testing.T, b bond.Bond, l ...act) bond.Bond {
	t.Helper()
	for _, do := range l {
		got := run(t, b, do)
		if got.e != api.OK {
			t.Fatalf("%v: the error %d", b, got.e)
		}
		b = got.b
	}
	return b
}

// want: an act has that error, or answers that bond and pays that.
func want(t *testing.T, name string, b bond.Bond, do act, want result) {
	t.Helper()
	if got := run(t, b, do); !sameResult(got, want) {
		t.Errorf("%s: %v; want %v", name, got, want)
	}
}

func wantError(t *testing.T, name string, b bond.Bond, do act, e api.Errno) {
	t.Helper()
	want(t, name, b, do, result{e: e})
}

// bondOf is a bond of the accounts 10 and 20 into which that was put.
func bondOf(t *testing.T, put [2]uint64, rule ...byte) bond.Bond {
	t.Helper()
	b, e := bond.New(id, [2]int{10, 20}, roots(), rule)
	if e != api.OK {
		t.Fatalf("P14.1: New: %d", e)
	}
	for side, amount := range put {
		if amount > 0 {
			b = done(t, b, more(api.Side(side), amount))
		}
	}
	return b
}

// shut is what a bond is that is fought and ended.
func shut(t *testing.T, b bond.Bond) bond.Bond {
	t.Helper()
	return done(t, b, fight(deed.First(id), 0), end(nil, top))
}

// P14.1: the numbers that the chapter names.
func TestNumbers(t *testing.T) {
	if bond.Live != 0 || bond.Fought != 1 || bond.Shut != 2 {
		t.Errorf("P14.1: the phases: %d, %d, %d", bond.Live, bond.Fought, bond.Shut)
	}
	if bond.MaxWait != 50 || bond.Wait != 5 || bond.RuleGas != 200 {
		t.Errorf("P14.2: %d, %d, %d", bond.MaxWait, bond.Wait, bond.RuleGas)
	}
}

// P14.1: a new bond has what it was given, and nothing else.
func TestNew(t *testing.T) {
	longest := slices.Repeat([]byte{code.Now}, api.MaxCode)
	for _, c := range []struct {
		id   uint32
		who  [2]int
		tall int
		rule []byte
	}{
		{id, [2]int{0, 1}, 8, nil},
		{0, [2]int{1, 0}, 0, []byte{}},
		{1, [2]int{-1, 0}, 1, []byte{code.Halt}},
		{math.MaxUint32, [2]int{math.MaxInt, math.MinInt}, 8, rule(t, "push 3", "halt")},
		{1 << 31, [2]int{-5, 5}, 7, rule(t, "jump 3", "halt")},
		{256, [2]int{1 << 32, 0}, 3, longest},
		{3, [2]int{255, 256}, 4, longest[:255]},
	} {
		k := deed.Roots{Of: [2]api.Digest{{1, 31: 2}, {3, 31: 4}}, Tall: c.tall}
		b, e := bond.New(c.id, c.who, k, c.rule)
		if e != api.OK || !same(b, bond.Bond{Id: c.id, Who: c.who, Roots: k, Rule: c.rule, Best: api.State{Channel: c.id}}) {
			t.Errorf("P14.1: New(%d, %d, height %d, %x): %v, %d", c.id, c.who, c.tall, c.rule, b, e)
		}
	}
	// Both roots may be one, and zero.
	for _, k := range []deed.Roots{{}, {Of: [2]api.Digest{{5}, {5}}}} {
		if b, e := bond.New(id, [2]int{0, 1}, k, nil); e != api.OK || b.Roots != k {
			t.Errorf("P14.1: New with the roots %v: %d", k, e)
		}
	}
}

// P14.1: what New refuses, and in which order.
func TestNewWrong(t *testing.T) {
	jump, short, none := []byte{code.Jump, 0, 1}, []byte{code.Push, 0}, []byte{18}
	long := slices.Repeat([]byte{18}, api.MaxCode+1)
	for _, c := range []struct {
		name string
		who  [2]int
		tall int
		rule []byte
		want api.Errno
	}{
		{"one account", [2]int{0, 0}, 8, nil, api.ErrArg},
		{"one account", [2]int{5, 5}, 8, nil, api.ErrArg},
		{"one account", [2]int{-1, -1}, 8, nil, api.ErrArg},
		{"one account", [2]int{math.MaxInt, math.MaxInt}, 8, nil, api.ErrArg},
		{"one account", [2]int{math.MinInt, math.MinInt}, 8, nil, api.ErrArg},
		{"the height -1", [2]int{0, 1}, -1, nil, api.ErrArg},
		{"the height 9", [2]int{0, 1}, 9, nil, api.ErrArg},
		{"the height 256", [2]int{0, 1}, 256, nil, api.ErrArg},
		{"the height 2^32", [2]int{0, 1}, 1 << 32, nil, api.ErrArg},
		{"the least height", [2]int{0, 1}, math.MinInt, nil, api.ErrArg},
		{"the greatest height", [2]int{0, 1}, math.MaxInt, nil, api.ErrArg},
		{"too long a rule", [2]int{0, 1}, 8, long, api.ErrArg},
		{"no such order", [2]int{0, 1}, 8, none, api.ErrOp},
		{"an order cut short", [2]int{0, 1}, 8, short, api.ErrShort},
		{"a jump to no beginning", [2]int{0, 1}, 8, jump, api.ErrForm},
		{"one account, ahead of the rule", [2]int{3, 3}, 8, none, api.ErrArg},
		{"the height, ahead of the rule", [2]int{0, 1}, 9, short, api.ErrArg},
		{"the height, ahead of the rule", [2]int{0, 1}, -1, jump, api.ErrArg},
	} {
		b, e := bond.New(id, c.who, deed.Roots{Of: roots().Of, Tall: c.tall}, c.rule)
		if e != c.want || !same(b, bond.Bond{}) {
			t.Errorf("P14.1: New, %s: %v, %d; want %d", c.name, b, e, c.want)
		}
	}
}

// P14.1, R3: New keeps no rule that was handed in, nor the room behind it.
func TestNewKeepsNothing(t *testing.T) {
	room := append(rule(t, "push 9", "halt"), 1, 2, 3)
	p := room[:len(room)-3]
	before := slices.Clone(room)
	b, _ := bond.New(id, [2]int{0, 1}, roots(), p)
	other, _ := bond.New(id, [2]int{0, 1}, roots(), p)
	_ = append(b.Rule, 99)
	if !slices.Equal(room, before) {
		t.Errorf("R3: the rule handed in was turned: %x", room)
	}
	wipe(b)
	if !slices.Equal(room, before) || !slices.Equal(other.Rule, before[:len(p)]) {
		t.Error("R3: a rule was turned with a bond's")
	}
	clear(room)
	if !slices.Equal(other.Rule, before[:len(p)]) {
		t.Error("R3: a bond's rule was turned with the one handed in")
	}
}

// eachPhase are bonds alike in each phase, with a rule, payments that are pending, and something paid.
func eachPhase(t *testing.T) map[string]bond.Bond {
	t.Helper()
	live := bondOf(t, [2]uint64{30, 40}, rule(t, "push 6", "halt")...)
	d := signed(t, state(4, [2]uint64{5, 1}, [2]uint64{2, 3}, cond(1, 0, 6, 20), cond(2, 1, 7, 20)))
	live = done(t, live, draw(api.Left, d), draw(api.Right, d))
	fought := done(t, live, fight(d, 10))
	return map[string]bond.Bond{"Live": live, "Fought": fought, "Shut": done(t, fought, end(nil, 21))}
}

// P14.1: a twin is alike, and neither turns with the other one.
func TestTwin(t *testing.T) {
	l := eachPhase(t)
	l["zero"] = bond.Bond{}
	for name, b := range l {
		want := twin(b)
		x, y := b.Twin(), b.Twin()
		if !same(x, want) || !same(y, want) {
			t.Errorf("P14.1: the twin of one that is %s isn't alike: %v", name, x)
		}
		wipe(x)
		x.Put[0], x.Paid[1], x.Who[0], x.Roots.Of[1], x.Best.Moved[0], x.Phase = 99, 99, 99, api.Digest{99}, 99, 99
		if !same(b, want) || !same(y, want) {
			t.Errorf("R3: a bond that is %s was turned with its twin", name)
		}
		wipe(b)
		if !same(y, want) {
			t.Errorf("R3: a twin was turned with one that is %s", name)
		}
	}
}

// R3: what lies in the room behind a bond's lists stays there, and is in no answer's room.
func TestRoom(t *testing.T) {
	for name, b := range eachPhase(t) {
		rules := append(slices.Clone(b.Rule), 8, 9)
		conds := append(slices.Clone(b.Best.Conds), cond(8, 0, 8, 8), cond(9, 1, 9, 9))
		b.Rule, b.Best.Conds = rules[:len(rules)-2], conds[:len(conds)-2]
		wantRules, wantConds := slices.Clone(rules), slices.Clone(conds)
		newer := signed(t, state(9, [2]uint64{}, [2]uint64{3, 4}, cond(3, 0, 1, 20)))
		for _, do := range []act{more(api.Left, 1), draw(api.Left, newer), fight(newer, 1), fight(deed.First(id), 1), show(newer, 1), end(nil, 99), twinned} {
			got := run(t, b, do)
			_ = append(got.b.Rule, 1)
			_ = append(got.b.Best.Conds, api.Cond{Id: 1})
			wipe(got.b)
			if !slices.Equal(rules, wantRules) || !slices.Equal(conds, wantConds) {
				t.Fatalf("R3: the lists of a bond that is %s were turned", name)
			}
		}
	}
}

func twinned(b bond.Bond) result { return result{b: b.Twin()} }

// P14.1: the side of each account, and of none.
func TestSide(t *testing.T) {
	for _, who := range [][2]int{{0, 1}, {1, 0}, {20, 10}, {-1, 0}, {0, -1}, {math.MinInt, math.MaxInt}, {1, 1<<32 + 1}} {
		b, e := bond.New(id, who, roots(), nil)
		if e != api.OK {
			t.Fatalf("P14.1: New(%d): %d", who, e)
		}
		for _, account := range []int{who[0], who[1], 2, 3, -2, 10, 11, 1 << 33, 0, 1, -1, math.MinInt, math.MaxInt} {
			side, ok := b.Side(account)
			switch account {
			case who[0]:
				if side != api.Left || !ok {
					t.Errorf("P14.1: of %d: Side(%d): %d, %v", who, account, side, ok)
				}
			case who[1]:
				if side != api.Right || !ok {
					t.Errorf("P14.1: of %d: Side(%d): %d, %v", who, account, side, ok)
				}
			default:
				if side != api.Left || ok {
					t.Errorf("P14.1: of %d: Side(%d): %d, %v", who, account, side, ok)
				}
			}
		}
	}
	for name, b := range eachPhase(t) {
		if side, ok := b.Side(20); side != api.Right || !ok {
			t.Errorf("P14.1: Side(20) of one that is %s: %d, %v", name, side, ok)
		}
	}
}

// P14.1: what a bond holds.
func TestLocked(t *testing.T) {
	for name, want := range map[string]uint64{"Live": 65, "Fought": 65, "Shut": 0} {
		if got := eachPhase(t)[name].Locked(); got != want {
			t.Errorf("P14.1: Locked of one that is %s: %d, want %d", name, got, want)
		}
	}
	for _, c := range []struct {
		put   [2]uint64
		taken [2]uint64
		want  uint64
	}{
		{[2]uint64{}, [2]uint64{}, 0},
		{[2]uint64{10, 0}, [2]uint64{}, 10},
		{[2]uint64{0, 10}, [2]uint64{}, 10},
		{[2]uint64{10, 5}, [2]uint64{10, 0}, 5},
		{[2]uint64{10, 5}, [2]uint64{1, 2}, 12},
		{[2]uint64{10, 5}, [2]uint64{10, 5}, 0},
		{[2]uint64{top, 0}, [2]uint64{}, top},
		{[2]uint64{1 << 63, 1<<63 - 1}, [2]uint64{}, top},
		{[2]uint64{1 << 63, 1<<63 - 1}, [2]uint64{1 << 63, 1<<63 - 2}, 1},
		{[2]uint64{0, top}, [2]uint64{0, top}, 0},
	} {
		b := bondOf(t, c.put)
		d := taking(t, 1, c.taken[0], c.taken[1])
		for side, taken := range c.taken {
			if taken > 0 {
				b = done(t, b, draw(api.Side(side), d))
			}
		}
		if got := b.Locked(); got != c.want {
			t.Errorf("P14.1: of %d, with %d paid: Locked: %d, want %d", c.put, c.taken, got, c.want)
		}
		if got := shut(t, b).Locked(); got != 0 {
			t.Errorf("P14.1: of %d, Shut: Locked: %d", c.put, got)
		}
	}
}

// P14.1: what More puts in.
func TestMore(t *testing.T) {
	for name, b := range eachPhase(t) {
		for side := range api.Side(2) {
			for _, amount := range []uint64{1, 2, 1 << 32, top - 70} {
				grown := twin(b)
				grown.Put[side] += amount
				if name == "Shut" {
					wantError(t, "P14.1: More of one that is Shut", b, more(side, amount), api.ErrClosed)
				} else {
					want(t, "P14.1: More of one that is "+name, b, more(side, amount), result{b: grown})
				}
			}
		}
	}
	b := done(t, bondOf(t, [2]uint64{}), more(0, 5), more(1, 7), more(0, 6))
	if b.Put != [2]uint64{11, 7} || b.Locked() != 18 {
		t.Errorf("P14.1: More on both sides: %d, %d", b.Put, b.Locked())
	}
}

// P14.1: More up to the end of the numbers, on a side, and on both together.
func TestMoreOver(t *testing.T) {
	for _, c := range []struct {
		put    [2]uint64
		side   api.Side
		amount uint64
		want   api.Errno
	}{
		{[2]uint64{}, 0, top, api.OK},
		{[2]uint64{}, 1, top, api.OK},
		{[2]uint64{5, 0}, 0, top - 5, api.OK},
		{[2]uint64{5, 0}, 0, top - 4, api.ErrOver},
		{[2]uint64{0, 5}, 1, top - 5, api.OK},
		{[2]uint64{0, 5}, 1, top - 4, api.ErrOver},
		{[2]uint64{5, 0}, 1, top - 5, api.OK},
		{[2]uint64{5, 0}, 1, top - 4, api.ErrOver},
		{[2]uint64{0, 5}, 0, top - 5, api.OK},
		{[2]uint64{0, 5}, 0, top - 4, api.ErrOver},
		{[2]uint64{5, 6}, 0, top - 11, api.OK},
		{[2]uint64{5, 6}, 1, top - 10, api.ErrOver},
		{[2]uint64{5, 6}, 0, top, api.ErrOver},
		{[2]uint64{top, 0}, 0, 1, api.ErrOver},
		{[2]uint64{top, 0}, 1, 1, api.ErrOver},
		{[2]uint64{0, top}, 0, top, api.ErrOver},
		{[2]uint64{1 << 63, 1<<63 - 1}, 0, 1, api.ErrOver},
		{[2]uint64{1 << 63, 1<<63 - 1}, 1, 1 << 63, api.ErrOver},
	} {
		b := bondOf(t, c.put)
		expect := result{e: c.want}
		if c.want == api.OK {
			expect.b = twin(b)
			expect.b.Put[c.side] += c.amount
		}
		want(t, "P14.1: More up to the end", b, more(c.side, c.amount), expect)
	}
	// What was paid leaves no more room.
	b := done(t, bondOf(t, [2]uint64{top - 1, 0}), draw(0, taking(t, 1, 9, 0)))
	wantError(t, "P14.1: More where something was paid", b, more(1, 2), api.ErrOver)
	if b = done(t, b, more(1, 1)); b.Locked() != top-9 {
		t.Errorf("P14.1: Locked: %d", b.Locked())
	}
}

// P14.1: which error More tells.
func TestMoreWrong(t *testing.T) {
	for name, b := range eachPhase(t) {
		for _, side := range farSides {
			for _, amount := range []uint64{0, 1, top} {
				wantError(t, "P14.1: More on no side of one that is "+name, b, more(side, amount), api.ErrArg)
			}
		}
		for side := range api.Side(2) {
			wantError(t, "P14.1: More of 0 of one that is "+name, b, more(side, 0), api.ErrArg)
			over := api.ErrOver
			if name == "Shut" {
				over = api.ErrClosed
			}
			wantError(t, "P14.1: More of too much of one that is "+name, b, more(side, top), over)
		}
	}
}

// R1: bonds, deeds and notaries that came out of no call.
func TestNoPanic(t *testing.T) {
	strange := []bond.Bond{
		{},
		{Phase: -1},
		{Phase: 3, Roots: deed.Roots{Tall: math.MinInt}},
		{Phase: math.MaxInt, Put: [2]uint64{top, top}, Paid: [2]uint64{top, top}},
		{Phase: bond.Fought, Paid: [2]uint64{5, 5}, Best: api.State{Round: top, Conds: make([]api.Cond, 300)}},
		{Phase: bond.Live, Rule: make([]byte, 1000), Roots: deed.Roots{Tall: math.MaxInt}, Paid: [2]uint64{1, 1}},
		{Phase: bond.Live, Rule: []byte{code.Jump, 255, 255}, Put: [2]uint64{top, top}},
		{Phase: bond.Fought, Until: top, Best: api.State{Channel: 9, Conds: []api.Cond{{By: -1}, {By: 2, Amount: top}}}},
	}
	deeds := []deed.Deed{{}, deed.First(id), taking(t, 3, 1, 1), {State: api.State{Round: top, Conds: make([]api.Cond, 300)}}}
	for _, b := range strange {
		b.Twin()
		b.Locked()
		b.Side(0)
		for _, side := range append(farSides, 0, 1) {
			b.More(side, top)
			for _, d := range deeds {
				b.Draw(side, d)
			}
		}
		for _, height := range []uint64{0, 1, top} {
			for _, d := range deeds {
				b.Fight(d, height)
				b.Show(d, height)
			}
			b.End(nil, height)
			b.End(&notary.Notary{}, height)
			b.End(notary.New(), height)
		}
	}
	if pact.Same(strange[0].Best, pact.New(1)) {
		t.Error("a zero bond's Best is of the channel 0")
	}
}
