package code_test

import (
	"bytes"
	"math"
	"slices"
	"strings"
	"testing"

	"tollhouse/api"
	"tollhouse/code"
)

const top = math.MaxUint64

// join puts parts of a program one behind the other.
func join(l ...[]byte) []byte { return bytes.Join(l, nil) }

func push(l ...uint64) []byte {
	var p []byte
	for _, n := range l {
		p = append(p, 1, byte(n>>56), byte(n>>48), byte(n>>40), byte(n>>32), byte(n>>24), byte(n>>16), byte(n>>8), byte(n))
	}
	return p
}

// loads lays the world's first fields, in two bytes each.
func loads(many int) []byte {
	var p []byte
	for i := range many {
		p = append(p, 2, byte(i))
	}
	return p
}

// worldOf has 40 fields, 100 and up, three answers and a height.
func worldOf() code.World {
	w := code.World{Paid: []bool{true, false, true}, Height: 77}
	for i := range 40 {
		w.Fields = append(w.Fields, uint64(100+i))
	}
	return w
}

// wantRun holds a run's answer, cost and error against what they must be.
func wantRun(t *testing.T, name string, p []byte, w code.World, gas int, answer uint64, cost int, e api.Errno) {
	t.Helper()
	if a, c, f := code.Run(p, w, gas); a != answer || c != cost || f != e {
		t.Errorf("P11.1: %s: %d, cost %d, error %d; want %d, %d, %d", name, a, c, f, answer, cost, e)
	}
}

// stackOf are the numbers on the stack behind a program that doesn't end by itself, the topmost one last. Each is taken off by a run of its own.
func stackOf(t *testing.T, p []byte, w code.World) []uint64 {
	t.Helper()
	var l []uint64
	for many := 0; ; many++ {
		all := join(p, bytes.Repeat([]byte{code.Drop}, many), []byte{code.Halt})
		n, _, e := code.Run(all, w, api.MaxGas)
		if e == api.ErrUnder {
			slices.Reverse(l)
			return l
		}
		if e != api.OK {
			t.Fatalf("P11.1: %v: %d", all, e)
		}
		l = append(l, n)
	}
}

// form is what is known of an order but for what it does.
type form struct {
	name                         string
	op                           byte
	follows, costs, takes, stays int
}

// forms are all orders; stays is how many numbers are there behind one that has taken its own from none else.
var forms = []form{
	{"halt", 0, 0, 1, 1, 0},
	{"push", 1, 8, 1, 0, 1},
	{"load", 2, 1, 1, 0, 1},
	{"add", 3, 0, 1, 2, 1},
	{"sub", 4, 0, 1, 2, 1},
	{"mul", 5, 0, 3, 2, 1},
	{"less", 6, 0, 1, 2, 1},
	{"same", 7, 0, 1, 2, 1},
	{"not", 8, 0, 1, 1, 1},
	{"both", 9, 0, 1, 2, 1},
	{"any", 10, 0, 1, 2, 1},
	{"jump", 11, 2, 1, 0, 0},
	{"if", 12, 2, 1, 1, 0},
	{"twice", 13, 0, 1, 1, 2},
	{"swap", 14, 0, 1, 2, 2},
	{"drop", 15, 0, 1, 1, 0},
	{"paid", 16, 1, 10, 0, 1},
	{"now", 17, 0, 1, 0, 1},
}

// at is the order at a place of a program; jump and if go to the place behind it, all others have zeros behind.
func (f form) at(place int) []byte {
	p := make([]byte, 1+f.follows)
	p[0] = f.op
	if f.op == code.Jump || f.op == code.If {
		p[2] = byte(place + 3)
	}
	return p
}

// The orders' bytes.
func TestNumbers(t *testing.T) {
	got := []int{code.Halt, code.Push, code.Load, code.Add, code.Sub, code.Mul, code.Less, code.Same, code.Not, code.Both, code.Any, code.Jump, code.If, code.Twice, code.Swap, code.Drop, code.Paid, code.Now}
	for i, op := range got {
		if op != i || forms[i].op != byte(i) {
			t.Errorf("P11.1: %s is %d", forms[i].name, op)
		}
	}
}

// The chapter's examples.
func TestExample(t *testing.T) {
	wantRun(t, "example", join(push(2, 3), []byte{code.Less, code.Halt}), code.World{}, 100, 1, 4, api.OK)
	for gas := range api.MaxGas + 1 {
		wantRun(t, "jump 0", []byte{code.Jump, 0, 0}, code.World{}, gas, 0, gas, api.ErrGas)
	}
}

// P11.1: what each order lays, of what it takes; what lies below stays.
func TestOrders(t *testing.T) {
	w := worldOf()
	for _, c := range []struct {
		name   string
		order  []byte
		before []uint64
		after  []uint64
	}{
		{"push", push(0x0102030405060708), nil, []uint64{0x0102030405060708}},
		{"push of 0", push(0), nil, []uint64{0}},
		{"push of the greatest", push(top), nil, []uint64{top}},
		{"push of the highest bit", push(1 << 63), nil, []uint64{1 << 63}},
		{"load, the first", []byte{2, 0}, nil, []uint64{100}},
		{"load", []byte{2, 7}, nil, []uint64{107}},
		{"load, the last", []byte{2, 39}, nil, []uint64{139}},
		{"add", []byte{3}, []uint64{5, 3}, []uint64{8}},
		{"add 0", []byte{3}, []uint64{0, 0}, []uint64{0}},
		{"add up to the greatest", []byte{3}, []uint64{top - 4, 4}, []uint64{top}},
		{"sub", []byte{4}, []uint64{5, 3}, []uint64{2}},
		{"sub to 0", []byte{4}, []uint64{5, 5}, []uint64{0}},
		{"sub all", []byte{4}, []uint64{top, top}, []uint64{0}},
		{"sub nothing", []byte{4}, []uint64{top, 0}, []uint64{top}},
		{"mul", []byte{5}, []uint64{5, 3}, []uint64{15}},
		{"mul by 0", []byte{5}, []uint64{top, 0}, []uint64{0}},
		{"mul by 1", []byte{5}, []uint64{1, top}, []uint64{top}},
		{"mul up to the greatest", []byte{5}, []uint64{1<<32 + 1, 1<<32 - 1}, []uint64{top}},
		{"mul halves", []byte{5}, []uint64{1 << 32, 1 << 31}, []uint64{1 << 63}},
		{"less", []byte{6}, []uint64{3, 5}, []uint64{1}},
		{"less, above", []byte{6}, []uint64{5, 3}, []uint64{0}},
		{"less, one", []byte{6}, []uint64{5, 5}, []uint64{0}},
		{"less, the ends", []byte{6}, []uint64{0, top}, []uint64{1}},
		{"less, the ends turned", []byte{6}, []uint64{top, 0}, []uint64{0}},
		{"less, the highest bit", []byte{6}, []uint64{1<<63 - 1, 1 << 63}, []uint64{1}},
		{"same", []byte{7}, []uint64{5, 5}, []uint64{1}},
		{"same, below", []byte{7}, []uint64{3, 5}, []uint64{0}},
		{"same, above", []byte{7}, []uint64{5, 3}, []uint64{0}},
		{"same, the highest bit", []byte{7}, []uint64{1 << 63, 0}, []uint64{0}},
		{"not 0", []byte{8}, []uint64{0}, []uint64{1}},
		{"not 1", []byte{8}, []uint64{1}, []uint64{0}},
		{"not of the greatest", []byte{8}, []uint64{top}, []uint64{0}},
		{"both", []byte{9}, []uint64{2, 4}, []uint64{1}},
		{"both, the first 0", []byte{9}, []uint64{0, 4}, []uint64{0}},
		{"both, the second 0", []byte{9}, []uint64{2, 0}, []uint64{0}},
		{"both 0", []byte{9}, []uint64{0, 0}, []uint64{0}},
		{"any", []byte{10}, []uint64{2, 4}, []uint64{1}},
		{"any, the first 0", []byte{10}, []uint64{0, 4}, []uint64{1}},
		{"any, the second 0", []byte{10}, []uint64{2, 0}, []uint64{1}},
		{"any of 0", []byte{10}, []uint64{0, 0}, []uint64{0}},
		{"twice", []byte{13}, []uint64{6}, []uint64{6, 6}},
		{"swap", []byte{14}, []uint64{5, 3}, []uint64{3, 5}},
		{"drop", []byte{15}, []uint64{5}, nil},
		{"paid", []byte{16, 0}, nil, []uint64{1}},
		{"not paid", []byte{16, 1}, nil, []uint64{0}},
		{"paid, the last", []byte{16, 2}, nil, []uint64{1}},
		{"now", []byte{17}, nil, []uint64{77}},
	} {
		for _, below := range [][]uint64{nil, {9}, {8, 9, 10}} {
			p := join(push(below...), push(c.before...), c.order)
			if got := stackOf(t, p, w); !slices.Equal(got, append(slices.Clone(below), c.after...)) {
				t.Errorf("P11.1: %s, %v below: %v; want %v", c.name, below, got, c.after)
			}
		}
	}
}

// P11.1: halt answers the topmost number, and ends the run, whatever is behind it.
func TestHalt(t *testing.T) {
	wantRun(t, "halt", join(push(5), []byte{0}), code.World{}, 9, 5, 2, api.OK)
	wantRun(t, "halt, the topmost", join(push(5, 6, 7), []byte{0}), code.World{}, 9, 7, 4, api.OK)
	wantRun(t, "halt, others behind", join(push(5), []byte{0}, push(6), []byte{0, 99}), code.World{}, 9, 5, 2, api.OK)
	wantRun(t, "halt, 0", join(push(0), []byte{0}), code.World{}, 9, 0, 2, api.OK)
	wantRun(t, "halt, the greatest", join(push(top), []byte{0}), code.World{}, 9, top, 2, api.OK)
}

// P11.1: the height, be it what it may.
func TestNow(t *testing.T) {
	for _, h := range []uint64{0, 1, api.MaxHeight, 1 << 63, top} {
		wantRun(t, "now", []byte{code.Now, code.Halt}, code.World{Height: h}, 9, h, 2, api.OK)
	}
}

// P11.1: each order alone, with just enough on the stack, and with less: what was begun is counted.
func TestEnough(t *testing.T) {
	w := worldOf()
	for _, f := range forms {
		for has := range f.takes + 1 {
			p := join(loads(has), f.at(2*has))
			if has < f.takes {
				wantRun(t, f.name+", too few", p, w, 100, 0, has+f.costs, api.ErrUnder)
			} else if f.name == "halt" {
				wantRun(t, "halt, just enough", p, w, 100, 100, 2, api.OK)
			} else if f.name == "sub" {
				wantRun(t, "sub, just enough", p, w, 100, 0, has+f.costs, api.ErrUnder)
			} else {
				// Nothing is behind it, so the run ends there.
				wantRun(t, f.name+", just enough", p, w, 100, 0, has+f.costs, api.ErrShort)
				if l := stackOf(t, p, w); len(l) != f.stays {
					t.Errorf("P11.1: %s, just enough: %v is left", f.name, l)
				}
			}
		}
	}
}

// P11.1: with 32 numbers an order that lays more than it takes finds no room; with 31 it does.
func TestFull(t *testing.T) {
	w := worldOf()
	for has := 30; has <= api.MaxStack; has++ {
		for _, f := range forms {
			if f.name == "halt" || f.name == "sub" {
				continue
			}
			p := join(loads(has), f.at(2*has))
			if has-f.takes+f.stays > api.MaxStack {
				wantRun(t, f.name+", full", p, w, 100, 0, has+f.costs, api.ErrFull)
				continue
			}
			wantRun(t, f.name+", nearly full", p, w, 100, 0, has+f.costs, api.ErrShort)
			if l := stackOf(t, p, w); len(l) != has-f.takes+f.stays || l[0] != 100 || l[28] != 128 && f.takes < 2 {
				t.Errorf("P11.1: %s, %d numbers: %v is left", f.name, has, l)
			}
		}
	}
	wantRun(t, "sub at 32", join(loads(31), []byte{code.Twice, code.Sub, code.Halt}), w, 100, 0, 34, api.OK)
	wantRun(t, "halt at 32", join(loads(32), []byte{code.Halt}), w, 100, 131, 33, api.OK)
	wantRun(t, "32 by push", join(push(5), bytes.Repeat([]byte{code.Twice}, 31), []byte{code.Halt}), w, 100, 5, 33, api.OK)
	wantRun(t, "33 by twice", join(push(5), bytes.Repeat([]byte{code.Twice}, 32), []byte{code.Halt}), w, 100, 0, 33, api.ErrFull)
	wantRun(t, "33 by now", bytes.Repeat([]byte{code.Now}, 40), w, 100, 0, 33, api.ErrFull)
	wantRun(t, "32 again and again", join(loads(32), []byte{code.Drop, code.Now, code.Drop, code.Now, code.Halt}), w, 100, 77, 37, api.OK)
}

// P11.1: sums, differences and products that aren't amounts.
func TestAmounts(t *testing.T) {
	for _, c := range []struct {
		op   byte
		a, b uint64
		e    api.Errno
	}{
		{code.Add, top, 1, api.ErrOver},
		{code.Add, 1, top, api.ErrOver},
		{code.Add, top, top, api.ErrOver},
		{code.Add, 1 << 63, 1 << 63, api.ErrOver},
		{code.Sub, 0, 1, api.ErrUnder},
		{code.Sub, 3, 5, api.ErrUnder},
		{code.Sub, 0, top, api.ErrUnder},
		{code.Sub, top - 1, top, api.ErrUnder},
		{code.Mul, top, 2, api.ErrOver},
		{code.Mul, 2, top, api.ErrOver},
		{code.Mul, top, top, api.ErrOver},
		{code.Mul, 1 << 32, 1 << 32, api.ErrOver},
		{code.Mul, 1<<32 + 1, 1 << 32, api.ErrOver},
	} {
		cost := 2 + forms[c.op].costs
		wantRun(t, forms[c.op].name, join(push(c.a, c.b), []byte{c.op, code.Halt}), code.World{}, 100, 0, cost, c.e)
	}
}

// P11.1: a field and an answer that there isn't, with a full stack too.
func TestNoSuchField(t *testing.T) {
	full := worldOf()
	all := code.World{Fields: make([]uint64, 300), Paid: make([]bool, 300)}
	all.Fields[255], all.Paid[255] = 9, true
	for _, c := range []struct {
		name   string
		p      []byte
		w      code.World
		answer uint64
		cost   int
		e      api.Errno
	}{
		{"load, no fields", []byte{2, 0}, code.World{Paid: []bool{true}}, 0, 1, api.ErrArg},
		{"load, one more", []byte{2, 1, 0}, code.World{Fields: []uint64{5}}, 0, 1, api.ErrArg},
		{"load, far more", []byte{2, 255, 0}, full, 0, 1, api.ErrArg},
		{"load, the last that can be told", []byte{2, 255, 0}, all, 9, 2, api.OK},
		{"load, empty fields", []byte{2, 0}, code.World{Fields: []uint64{}}, 0, 1, api.ErrArg},
		{"load, in the room behind the fields", []byte{2, 1, 0}, code.World{Fields: []uint64{5, 6}[:1]}, 0, 1, api.ErrArg},
		{"load, full, none", join(loads(32), []byte{2, 40}), full, 0, 33, api.ErrArg},
		{"load, full", join(loads(32), []byte{2, 39}), full, 0, 33, api.ErrFull},
		{"paid, no answers", []byte{16, 0}, code.World{Fields: []uint64{5}}, 0, 10, api.ErrArg},
		{"paid, one more", []byte{16, 1, 0}, code.World{Paid: []bool{true}}, 0, 10, api.ErrArg},
		{"paid, far more", []byte{16, 255, 0}, full, 0, 10, api.ErrArg},
		{"paid, the last that can be told", []byte{16, 255, 0}, all, 1, 11, api.OK},
		{"paid, full, none", join(loads(32), []byte{16, 3}), full, 0, 42, api.ErrArg},
		{"paid, full", join(loads(32), []byte{16, 2}), full, 0, 42, api.ErrFull},
	} {
		wantRun(t, c.name, c.p, c.w, 100, c.answer, c.cost, c.e)
	}
}

// P11.1: what gas there may be, and what each order costs where that decides.
func TestGas(t *testing.T) {
	mul := join(push(2, 3), []byte{code.Mul, code.Halt})
	paid := []byte{code.Paid, 0, code.Halt}
	w := worldOf()
	for _, c := range []struct {
		name      string
		p         []byte
		gas, cost int
		answer    uint64
		e         api.Errno
	}{
		{"mul, no gas", mul, 0, 0, 0, api.ErrGas},
		{"mul, for one push", mul, 1, 1, 0, api.ErrGas},
		{"mul, for both pushes", mul, 2, 2, 0, api.ErrGas},
		{"mul, for one of three", mul, 3, 2, 0, api.ErrGas},
		{"mul, for two of three", mul, 4, 2, 0, api.ErrGas},
		{"mul, not for halt", mul, 5, 5, 0, api.ErrGas},
		{"mul, just enough", mul, 6, 6, 6, api.OK},
		{"mul, one more", mul, 7, 6, 6, api.OK},
		{"mul, the most", mul, api.MaxGas, 6, 6, api.OK},
		{"mul, more than the most", mul, api.MaxGas + 1, 0, 0, api.ErrArg},
		{"mul, all there is", mul, math.MaxInt, 0, 0, api.ErrArg},
		{"mul, below 0", mul, -1, 0, 0, api.ErrArg},
		{"mul, far below 0", mul, math.MinInt, 0, 0, api.ErrArg},
		{"paid, no gas", paid, 0, 0, 0, api.ErrGas},
		{"paid, one less", paid, 9, 0, 0, api.ErrGas},
		{"paid, not for halt", paid, 10, 10, 0, api.ErrGas},
		{"paid, just enough", paid, 11, 11, 1, api.OK},
		{"endless mul", []byte{17, 17, 5, 15, 11, 0, 0}, api.MaxGas, 4096, 0, api.ErrGas},
		{"endless mul, where it doesn't come out even", []byte{17, 17, 5, 15, 11, 0, 0}, 4, 2, 0, api.ErrGas},
		{"endless paid, where it doesn't come out even", []byte{16, 0, 15, 11, 0, 0}, api.MaxGas, 4092, 0, api.ErrGas},
		{"endless", []byte{11, 0, 0}, api.MaxGas, 4096, 0, api.ErrGas},
		{"endless, too much gas", []byte{11, 0, 0}, api.MaxGas + 1, 0, 0, api.ErrArg},
		{"nothing, gas below 0", nil, -1, 0, 0, api.ErrArg},
		{"nothing, too much gas", nil, api.MaxGas + 1, 0, 0, api.ErrArg},
	} {
		wantRun(t, c.name, c.p, w, c.gas, c.answer, c.cost, c.e)
	}
	for _, f := range forms {
		p := join(loads(f.takes), f.at(2*f.takes))
		for gas := range f.takes + f.costs {
			wantRun(t, f.name+", too little", p, w, gas, 0, min(gas, f.takes), api.ErrGas)
		}
	}
}

// P11.1: of several ends of one order the first one.
func TestFirstEnd(t *testing.T) {
	w := worldOf()
	for _, c := range []struct {
		name string
		p    []byte
		gas  int
		cost int
		e    api.Errno
	}{
		{"no order, no gas", []byte{18}, 0, 0, api.ErrOp},
		{"cut short, no gas", []byte{1, 0}, 0, 0, api.ErrShort},
		{"beyond the end, no gas", []byte{17}, 1, 1, api.ErrShort},
		{"nothing, no gas", nil, 0, 0, api.ErrShort},
		{"none to take, no gas", []byte{3}, 0, 0, api.ErrGas},
		{"none to take, too little gas", []byte{5}, 2, 0, api.ErrGas},
		{"no field, no gas", []byte{2, 200}, 0, 0, api.ErrGas},
		{"no answer, too little gas", []byte{16, 200}, 9, 0, api.ErrGas},
		{"no room, no gas", bytes.Repeat([]byte{17}, 33), 32, 32, api.ErrGas},
		{"halt on nothing, no gas", []byte{0}, 0, 0, api.ErrGas},
		{"halt on nothing", []byte{0}, 1, 1, api.ErrUnder},
		{"if on nothing, to nowhere", []byte{12, 255, 255}, 9, 1, api.ErrUnder},
		{"one taken, and no other", join(push(0), []byte{code.Sub}), 9, 2, api.ErrUnder},
	} {
		wantRun(t, c.name, c.p, w, c.gas, 0, c.cost, c.e)
	}
}

// P11.1: jump and if go where their number says, whatever lies there.
func TestJumps(t *testing.T) {
	w := worldOf()
	inside := []byte{1, 17, 0, 0, 0, 0, 0, 0, 0}
	for _, c := range []struct {
		name      string
		p         []byte
		gas, cost int
		answer    uint64
		e         api.Errno
	}{
		{"jump to the beginning", join(push(5), []byte{11, 0, 0}), 7, 7, 0, api.ErrGas},
		{"jump over", []byte{11, 0, 4, 99, 17, 0}, 9, 3, 77, api.OK},
		{"jump to what is behind it", []byte{11, 0, 3, 17, 0}, 9, 3, 77, api.OK},
		{"jump to the end", []byte{11, 0, 3}, 9, 1, 0, api.ErrShort},
		{"jump beyond", []byte{11, 0, 4}, 9, 1, 0, api.ErrShort},
		{"jump far beyond", []byte{11, 255, 255}, 9, 1, 0, api.ErrShort},
		{"jump beyond, the higher byte", []byte{11, 1, 0}, 9, 1, 0, api.ErrShort},
		{"jump to the end, no gas behind it", []byte{11, 0, 3}, 1, 1, 0, api.ErrShort},
		{"jump into a number", join([]byte{11, 0, 4}, inside), 9, 3, 77, api.OK},
		{"jump into its own number, a load", []byte{11, 0, 2, 0, 0}, 9, 3, 100, api.OK},
		{"if, to the beginning, and then not", join(push(5), []byte{12, 0, 0, 17, 0}), 8, 8, 0, api.ErrGas},
		{"if 1", join(push(1), []byte{12, 0, 13, 99, 17, 0}), 9, 4, 77, api.OK},
		{"if of the greatest", join(push(top), []byte{12, 0, 13, 99, 17, 0}), 9, 4, 77, api.OK},
		{"if 0", join(push(0), []byte{12, 0, 0, 17, 0}), 9, 4, 77, api.OK},
		{"if 0, to nowhere", join(push(0), []byte{12, 255, 255, 17, 0}), 9, 4, 77, api.OK},
		{"if, to the end", join(push(1), []byte{12, 0, 12}), 9, 2, 0, api.ErrShort},
		{"if, beyond", join(push(1), []byte{12, 255, 255}), 9, 2, 0, api.ErrShort},
		{"if, into a number", join(push(1), []byte{12, 0, 13}, inside), 9, 4, 77, api.OK},
	} {
		wantRun(t, c.name, c.p, w, c.gas, c.answer, c.cost, c.e)
	}
	// From 10 down to 0: push 10; each round takes 1 away and goes on, as long as it isn't 0.
	down := join(push(10), push(1), []byte{code.Sub, code.Twice, code.If, 0, 9, code.Now, code.Halt})
	wantRun(t, "ten rounds", down, w, 100, 77, 1+10*4+2, api.OK)
}

// P11.1: an order that is cut short, at each length.
func TestCutShort(t *testing.T) {
	w := worldOf()
	for _, f := range forms {
		for n := 1; n <= f.follows; n++ {
			p := join(loads(2), f.at(4)[:n])
			wantRun(t, f.name+", cut short", p, w, 100, 0, 2, api.ErrShort)
			if e := code.Check(p); e != api.ErrShort {
				t.Errorf("P11.2: %s, cut to %d: Check: %d", f.name, n, e)
			}
			if s, e := code.Text(p); e != api.ErrShort || s != "" {
				t.Errorf("P11.2: %s, cut to %d: Text: %q, %d", f.name, n, s, e)
			}
		}
	}
}

// P11.1, P11.2: bytes that are no orders, also as the last ones.
func TestNoOrder(t *testing.T) {
	for op := len(forms); op < 256; op++ {
		for _, behind := range [][]byte{nil, {0}, push(1), {1}} {
			p := join([]byte{17, byte(op)}, behind)
			wantRun(t, "no order", p, code.World{}, 100, 0, 1, api.ErrOp)
			if e := code.Check(p); e != api.ErrOp {
				t.Errorf("P11.2: %d: Check: %d", op, e)
			}
			if s, e := code.Text(p); e != api.ErrOp || s != "" {
				t.Errorf("P11.2: %d: Text: %q, %d", op, s, e)
			}
		}
	}
}

// P11.1, P11.2: 256 bytes are allowed, 257 aren't, whatever they are.
func TestLong(t *testing.T) {
	most := join(bytes.Repeat([]byte{code.Now, code.Drop}, 127), []byte{code.Now, code.Halt})
	wantRun(t, "256 bytes", most, worldOf(), 300, 77, 256, api.OK)
	if e := code.Check(most); e != api.OK {
		t.Errorf("P11.2: 256 bytes: %d", e)
	}
	want := strings.Repeat("now\ndrop\n", 127) + "now\nhalt"
	if s, e := code.Text(most); s != want || e != api.OK {
		t.Errorf("P11.2: 256 bytes: %q, %d", s, e)
	}
	if p, e := code.Parse(want); !bytes.Equal(p, most) || e != api.OK {
		t.Errorf("P11.2: 256 bytes: %v, %d", p, e)
	}
	if p, e := code.Parse("now\n" + want); len(p) != 0 || e != api.ErrArg {
		t.Errorf("P11.2: 257 bytes: %v, %d", p, e)
	}
	for _, p := range [][]byte{
		append(bytes.Repeat([]byte{code.Now, code.Drop}, 128), code.Halt),
		bytes.Repeat([]byte{99}, 257),
		make([]byte, 257),
		join(bytes.Repeat([]byte{17}, 256), []byte{1}),
		join([]byte{11, 0, 1}, make([]byte, 254)),
		make([]byte, 70000),
	} {
		wantRun(t, "more than 256 bytes", p, worldOf(), 100, 0, 0, api.ErrArg)
		wantRun(t, "more than 256 bytes, no gas", p, worldOf(), 0, 0, 0, api.ErrArg)
		if e := code.Check(p); e != api.ErrArg {
			t.Errorf("P11.2: %d bytes: Check: %d", len(p), e)
		}
		if s, e := code.Text(p); e != api.ErrArg || s != "" {
			t.Errorf("P11.2: %d bytes: Text: %q, %d", len(p), s, e)
		}
	}
}

// wholes are whole programs, with their texts.
var wholes = []struct {
	p    []byte
	text string
}{
	{nil, ""},
	{[]byte{0}, "halt"},
	{[]byte{0, 0}, "halt\nhalt"},
	{join(push(2, 3), []byte{6, 0}), "push 2\npush 3\nless\nhalt"},
	{push(0), "push 0"},
	{push(top), "push 18446744073709551615"},
	{push(1 << 63), "push 9223372036854775808"},
	{push(0x0102030405060708), "push 72623859790382856"},
	{[]byte{2, 0, 2, 9, 2, 10, 2, 255}, "load 0\nload 9\nload 10\nload 255"},
	{[]byte{16, 0, 16, 128, 16, 255}, "paid 0\npaid 128\npaid 255"},
	{[]byte{3, 4, 5, 6, 7, 8, 9, 10}, "add\nsub\nmul\nless\nsame\nnot\nboth\nany"},
	{[]byte{13, 14, 15, 17, 0}, "twice\nswap\ndrop\nnow\nhalt"},
	{[]byte{11, 0, 0}, "jump 0"},
	{[]byte{12, 0, 0}, "if 0"},
	{[]byte{11, 0, 3, 12, 0, 0}, "jump 3\nif 0"},
	{join([]byte{11, 0, 12}, push(5), []byte{0}), "jump 12\npush 5\nhalt"},
	{join(bytes.Repeat([]byte{17}, 253), []byte{11, 0, 253}), strings.Repeat("now\n", 253) + "jump 253"},
	{join([]byte{12, 0, 255}, bytes.Repeat([]byte{13}, 252), []byte{0}), "if 255\n" + strings.Repeat("twice\n", 252) + "halt"},
}

// P11.2, P11.3: whole programs, their texts, and back.
func TestWhole(t *testing.T) {
	for _, c := range wholes {
		if e := code.Check(c.p); e != api.OK {
			t.Errorf("P11.2: %v: Check: %d", c.p, e)
		}
		if s, e := code.Text(c.p); s != c.text || e != api.OK {
			t.Errorf("P11.2: %v: Text: %q, %d; want %q", c.p, s, e, c.text)
		}
		if p, e := code.Parse(c.text); !bytes.Equal(p, c.p) || e != api.OK {
			t.Errorf("P11.2: %q: Parse: %v, %d; want %v", c.text, p, e, c.p)
		}
	}
	if s, e := code.Text([]byte{}); s != "" || e != api.OK {
		t.Errorf("R4: an empty program: %q, %d", s, e)
	}
}

// P11.2: programs that aren't whole: order by order first, and where jumps go at last.
func TestNotWhole(t *testing.T) {
	for _, c := range []struct {
		name string
		p    []byte
		e    api.Errno
	}{
		{"jump to the end", []byte{11, 0, 3}, api.ErrForm},
		{"jump beyond", []byte{11, 0, 4}, api.ErrForm},
		{"jump far beyond", []byte{11, 255, 255}, api.ErrForm},
		{"jump beyond, a beginning by its lower byte", []byte{11, 1, 0}, api.ErrForm},
		{"jump into its own number", []byte{11, 0, 1}, api.ErrForm},
		{"jump into its own number, the last byte", []byte{11, 0, 2, 0}, api.ErrForm},
		{"jump into the number behind", join([]byte{11, 0, 4}, push(0)), api.ErrForm},
		{"jump to a number's last byte", join([]byte{11, 0, 11}, push(0)), api.ErrForm},
		{"jump back into a number", join(push(0), []byte{11, 0, 8}), api.ErrForm},
		{"if to the end", []byte{12, 0, 3}, api.ErrForm},
		{"if beyond", []byte{12, 255, 255}, api.ErrForm},
		{"if into a number", []byte{2, 0, 12, 0, 1}, api.ErrForm},
		{"if into an answer's number", []byte{16, 0, 12, 0, 1}, api.ErrForm},
		{"the second jump", []byte{11, 0, 0, 11, 0, 6}, api.ErrForm},
		{"to the end of 256 bytes", join([]byte{11, 1, 0}, make([]byte, 253)), api.ErrForm},
		{"a jump, then no order", []byte{11, 0, 1, 99}, api.ErrOp},
		{"a jump, then one cut short", []byte{11, 0, 1, 1, 0}, api.ErrShort},
		{"no order, then one cut short", []byte{99, 1}, api.ErrOp},
		{"no order, then more", []byte{18, 0, 0}, api.ErrOp},
		{"one cut short by what seems no order", []byte{1, 99}, api.ErrShort},
	} {
		if e := code.Check(c.p); e != c.e {
			t.Errorf("P11.2: %s: Check: %d; want %d", c.name, e, c.e)
		}
		if s, e := code.Text(c.p); e != c.e || s != "" {
			t.Errorf("P11.2: %s: Text: %q, %d; want %d", c.name, s, e, c.e)
		}
	}
}

// P11.2: texts of no whole program, line by line.
func TestParseWrong(t *testing.T) {
	word := []string{
		"\n", "\n\n", "halt\n", "\nhalt", "halt\n\nhalt", "push 2\n", "jump 0\n",
		"stop", "Halt", "HALT", "hal", "halts", "halthalt", "0", "5", "push2", "pushh 2",
		" ", " halt", "  halt", "\thalt", "halt\t", "halt\r", "halt\r\nhalt", "push\t2", "push\v2", "push\u00a02", " 2", "\x00", "halt\x00", "\xff", "hält", "halt;", "halt,halt",
		"halt\nstop", "stop\npush", "stop 5", "+", "-", "push 2\nnot\nxor\nhalt",
	}
	form := []string{
		"push", "load", "jump", "if", "paid", "push ", "load ", "jump ", "if ", "paid ",
		"push  2", "push 2 ", "push 2 3", "push 2  ", "load 1 ", "jump 0 0", "if 0 ", "paid  1",
		"halt ", "halt 0", "halt 5", "halt halt", "add 1", "sub ", "mul 1", "less 2", "same 1", "not 0", "both 1", "any 1", "twice 2", "swap 1", "drop 1", "now 0", "now ",
		"push 00", "push 02", "push 000", "push 018446744073709551615", "load 01", "load 00", "load 007", "jump 00", "if 00", "paid 00", "paid 01",
		"push +2", "push -2", "push -0", "push +0", "load -1", "load +1", "jump -1", "if +0", "paid -1",
		"push 18446744073709551616", "push 18446744073709551625", "push 99999999999999999999", "push 184467440737095516150", "push " + strings.Repeat("9", 4000),
		"load 256", "load 300", "load 65536", "load 18446744073709551616", "jump 65536", "jump 65537", "jump 4294967296", "if 65536", "if 18446744073709551616", "paid 256", "paid 257",
		"push x", "push 2x", "push x2", "push 0x2", "push 0b1", "push 0o1", "push 1_0", "push 1e3", "push 1.0", "push 2.", "push ,", "push 2\t", "push 2\r", "push \t2", "push 2\x00", "push ٢", "push ２",
		"push\nstop", "push 2\npush", "halt 1\nstop", "push 2\npush 02\nstop", "halt\njump 65536\nhalt",
	}
	for _, c := range []struct {
		e api.Errno
		l []string
	}{
		{api.ErrWord, word},
		{api.ErrForm, form},
		// These numbers fit, but no order begins there.
		{api.ErrForm, []string{"jump 1", "jump 3", "jump 65535", "if 3", "if 65535", "halt\njump 2", "jump 4\npush 0", "halt\nif 256"}},
		{api.ErrArg, []string{strings.Repeat("halt\n", 256) + "halt", strings.Repeat("push 0\n", 28) + "push 0", "jump 1\n" + strings.Repeat("now\n", 253) + "now"}},
		{api.ErrWord, []string{strings.Repeat("halt\n", 256) + "halt\n", "jump 1\nstop"}},
		{api.ErrForm, []string{strings.Repeat("halt\n", 256) + "halt 1"}},
	} {
		for _, s := range c.l {
			if p, e := code.Parse(s); e != c.e || len(p) != 0 {
				t.Errorf("P11.2: %.40q: %v, %d; want %d", s, p, e, c.e)
			}
		}
	}
}

// P11.2: 4096 bytes of text are allowed, 4097 aren't, whatever they are.
func TestLongText(t *testing.T) {
	// Of 4096 bytes no text is that of a whole program, so something else is wrong.
	most := strings.Repeat("now\n", 1023) + "halt"
	for _, c := range []struct {
		name string
		text string
		e    api.Errno
	}{
		{"4096 bytes, too many orders", most, api.ErrArg},
		{"4096 bytes, a line feed at the end", strings.Repeat("now\n", 1024), api.ErrWord},
		{"4096 bytes, one word", strings.Repeat("x", 4096), api.ErrWord},
		{"4096 bytes, line feeds", strings.Repeat("\n", 4096), api.ErrWord},
		{"4096 bytes, a long number", "push " + strings.Repeat("1", 4091), api.ErrForm},
		{"4096 bytes, zeros ahead", "push " + strings.Repeat("0", 4090) + "1", api.ErrForm},
		{"4097 bytes, too many orders", most + "s", api.ErrLimit},
		{"4097 bytes, one word", strings.Repeat("x", 4097), api.ErrLimit},
		{"4097 bytes, line feeds", strings.Repeat("\n", 4097), api.ErrLimit},
		{"4097 bytes, a long number", "push " + strings.Repeat("1", 4092), api.ErrLimit},
		{"far more", strings.Repeat("halt\n", 100000), api.ErrLimit},
	} {
		if p, e := code.Parse(c.text); e != c.e || len(p) != 0 {
			t.Errorf("P11.2: %s: %v, %d; want %d", c.name, p, e, c.e)
		}
	}
	// The longest text that a whole program has.
	twices := strings.Repeat("twice\n", 255) + "twice"
	if p, e := code.Parse(twices); e != api.OK || !bytes.Equal(p, bytes.Repeat([]byte{13}, 256)) {
		t.Errorf("P11.2: 256 times twice: %v, %d", p, e)
	}
}

// R3: what is handed in, with the room behind its end, is neither changed nor kept; what is handed out is new.
func TestKeepsNothing(t *testing.T) {
	room := join(push(2), []byte{code.Load, 0, code.Add, code.Twice, code.Halt, 99, 98, 97})
	fields, paid := []uint64{5, 6, 7}, []bool{true, false}
	p, w := room[:14], code.World{Fields: fields[:1], Paid: paid[:1], Height: 3}
	before := slices.Clone(room)
	wantRun(t, "handed in", p, w, 100, 7, 5, api.OK)
	if e := code.Check(p); e != api.OK {
		t.Errorf("P11.2: %d", e)
	}
	if s, e := code.Text(p); e != api.OK || s != "push 2\nload 0\nadd\ntwice\nhalt" {
		t.Errorf("P11.2: %q, %d", s, e)
	}
	if !bytes.Equal(room, before) || !slices.Equal(fields, []uint64{5, 6, 7}) || !slices.Equal(paid, []bool{true, false}) {
		t.Error("R3: an argument, or the room behind it, was changed")
	}
	a, _ := code.Parse("push 2\nhalt")
	b, _ := code.Parse("push 2\nhalt")
	clear(a[:cap(a)])
	if c, _ := code.Parse("push 2\nhalt"); !bytes.Equal(b, join(push(2), []byte{0})) || !bytes.Equal(c, b) {
		t.Errorf("R3: answers share memory: %v, %v", b, c)
	}
}
