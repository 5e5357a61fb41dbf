package deed_test

import (
	"bytes"
	"crypto/sha256"
	"encoding/binary"
	"encoding/hex"
	"math"
	"math/rand"
	"slices"
	"testing"

	"tollhouse/api"
	"tollhouse/deed"
	"tollhouse/octet"
	"tollhouse/pact"
)

const (
	top = math.MaxUint64
	// stateSize, condSize and opSize are how many bytes a state without payments has, a payment, and what a side wants.
	stateSize = 45
	condSize  = 57
	opSize    = 17 + condSize
	// countAt is where a state has how many payments there are; byAt is where a payment has whose it is.
	countAt = 44
	byAt    = 8
)

// ramp are 32 bytes that count up from first.
func ramp(first byte) [32]byte {
	var p [32]byte
	for i := range p {
		p[i] = first + byte(i)
	}
	return p
}

func cond(id uint64, by api.Side, amount uint64) api.Cond {
	return api.Cond{Id: id, By: by, Amount: amount, Hash: ramp(byte(id)), Expiry: id<<40 + 9}
}

// some are payments by both sides.
func some(many int) []api.Cond {
	var l []api.Cond
	for i := range many {
		l = append(l, cond(uint64(100+i), api.Side(i%3%2), uint64(i+1)<<(i%50)))
	}
	return l
}

func state(round uint64, l ...api.Cond) api.State {
	return api.State{Channel: 0x01020304, Round: round, Moved: [2]uint64{1, top}, Taken: [2]uint64{1 << 32, 4}, Conds: l}
}

func same(a, b api.State) bool {
	return a.Channel == b.Channel && a.Round == b.Round && a.Moved == b.Moved && a.Taken == b.Taken && slices.Equal(a.Conds, b.Conds)
}

// laidCond, laidState and laidOp are bytes by the chapter's words.
func laidCond(p []byte, c api.Cond) []byte {
	p = binary.BigEndian.AppendUint64(p, c.Id)
	p = append(p, byte(c.By))
	p = binary.BigEndian.AppendUint64(p, c.Amount)
	p = append(p, c.Hash[:]...)
	return binary.BigEndian.AppendUint64(p, c.Expiry)
}

func laidState(s api.State) []byte {
	p := binary.BigEndian.AppendUint32(nil, s.Channel)
	for _, n := range []uint64{s.Round, s.Moved[0], s.Moved[1], s.Taken[0], s.Taken[1]} {
		p = binary.BigEndian.AppendUint64(p, n)
	}
	p = append(p, byte(len(s.Conds)))
	for _, c := range s.Conds {
		p = laidCond(p, c)
	}
	return p
}

func laidOp(op pact.Op) []byte {
	p := []byte{byte(op.Kind)}
	p = binary.BigEndian.AppendUint64(p, op.Amount)
	p = binary.BigEndian.AppendUint64(p, op.Id)
	return laidCond(p, op.Cond)
}

// writtenOut is a state whose bytes and sum were worked out outside of this project.
func writtenOut() api.State {
	second := api.Cond{Id: top, By: 1, Amount: 1 << 63, Expiry: 1 << 40}
	for i := range second.Hash {
		second.Hash[i] = 255
	}
	return state(200, api.Cond{Id: 5, Amount: 6, Hash: ramp(0), Expiry: 9}, second)
}

// P13.1: bytes that are written out.
func TestLayWrittenOut(t *testing.T) {
	for _, c := range []struct {
		s    api.State
		want string
	}{
		{api.State{}, "00000000" + "0000000000000000" + "0000000000000000" + "0000000000000000" + "0000000000000000" + "0000000000000000" + "00"},
		{pact.New(3), "00000003" + "0000000000000000" + "0000000000000000" + "0000000000000000" + "0000000000000000" + "0000000000000000" + "00"},
		{writtenOut(), "01020304" + "00000000000000c8" + "0000000000000001" + "ffffffffffffffff" + "0000000100000000" + "0000000000000004" + "02" +
			"0000000000000005" + "00" + "0000000000000006" + "000102030405060708090a0b0c0d0e0f101112131415161718191a1b1c1d1e1f" + "0000000000000009" +
			"ffffffffffffffff" + "01" + "8000000000000000" + "ffffffffffffffffffffffffffffffffffffffffffffffffffffffffffffffff" + "0000010000000000"},
	} {
		if got := hex.EncodeToString(deed.Lay(nil, c.s)); got != c.want {
			t.Errorf("P13.1: Lay of %v: %s, want %s", c.s, got, c.want)
		}
	}
	op := pact.Op{Kind: 2, Amount: 3, Id: 4, Cond: api.Cond{Id: 5, By: 1, Amount: 6, Hash: ramp(0), Expiry: 7}}
	want := "02" + "0000000000000003" + "0000000000000004" +
		"0000000000000005" + "01" + "0000000000000006" + "000102030405060708090a0b0c0d0e0f101112131415161718191a1b1c1d1e1f" + "0000000000000007"
	if got := hex.EncodeToString(deed.LayOp(nil, op)); got != want {
		t.Errorf("P13.1: LayOp: %s, want %s", got, want)
	}
}

// P13.1: a state behind what was laid, of so many payments, also of more than there may be.
func TestLay(t *testing.T) {
	for _, many := range []int{0, 1, 2, 7, 8, 9, 255, 256, 257, 300} {
		s := state(9, some(many)...)
		want := laidState(s)
		if len(want) != stateSize+many*condSize || want[countAt] != byte(many) {
			t.Fatalf("%d bytes, how many: %d", len(want), want[countAt])
		}
		for _, before := range []octet.Out{nil, {}, {7}, append(make(octet.Out, 0, 20000), 9, 8)} {
			begin := bytes.Clone(before)
			if got := deed.Lay(before, s); !bytes.Equal(got, append(begin, want...)) {
				t.Errorf("P13.1: %d payments, laid behind %x: %x", many, begin, []byte(got))
			}
		}
	}
}

// P13.1: of By there is the lowest byte.
func TestLayBy(t *testing.T) {
	for _, c := range []struct {
		by   api.Side
		want byte
	}{{0, 0}, {1, 1}, {2, 2}, {255, 255}, {256, 0}, {257, 1}, {-1, 255}, {-256, 0}, {1<<32 + 5, 5}, {math.MinInt, 0}, {math.MaxInt, 255}} {
		if got := deed.Lay(nil, state(1, cond(5, c.by, 6))); got[stateSize+byAt] != c.want || len(got) != stateSize+condSize {
			t.Errorf("P13.1: a payment by %d: %x", c.by, []byte(got))
		}
		if got := deed.LayOp(nil, pact.Op{Cond: cond(5, c.by, 6)}); got[17+byAt] != c.want || len(got) != opSize {
			t.Errorf("P13.1: a wish with a payment by %d: %x", c.by, []byte(got))
		}
	}
}

// P13.1: what a side wants, behind what was laid; of its Kind there is the lowest byte.
func TestLayOp(t *testing.T) {
	for _, kind := range []int{0, 1, 2, 3, 4, 5, 6, 255, 256, 261, -1, -256, 1<<32 + 3, math.MinInt, math.MaxInt} {
		for _, op := range []pact.Op{{}, {Amount: top, Id: 1 << 63, Cond: cond(7, 1, 1)}, {Amount: 0x0102030405060708, Id: 0x1112131415161718}} {
			op.Kind = kind
			for _, before := range []octet.Out{nil, {}, {7}, append(make(octet.Out, 0, 20000), 9, 8)} {
				begin := bytes.Clone(before)
				if got := deed.LayOp(before, op); !bytes.Equal(got, append(begin, laidOp(op)...)) {
					t.Errorf("P13.1: %v, laid behind %x: %x", op, begin, []byte(got))
				}
			}
		}
	}
}

// P13.1, R3: what is laid is neither changed nor kept, nor is the room behind it, wherever it lies.
func TestLayKeepsNothing(t *testing.T) {
	room := some(4)
	s := state(9, room[:2]...)
	want := laidState(s)
	o := deed.Lay(make(octet.Out, 0, 20000), s)
	if !slices.Equal(room, some(4)) {
		t.Error("R3: the payments or the room behind them were changed")
	}
	clear(room)
	if !bytes.Equal(o, want) {
		t.Error("R3: the payments were kept")
	}
	for place := range 4 {
		s := state(9, some(4)...)
		want := laidState(s)
		if o := deed.Lay(s.Conds[place].Hash[:0], s); !bytes.Equal(o, want) {
			t.Errorf("P13.1: the payment %d in the room behind an Out isn't laid as it was", place)
		}
	}
}

// P13.1, P13.4: what was laid is taken as it was, and what is behind it stays.
func TestTake(t *testing.T) {
	for many := range 9 {
		a, b := state(uint64(many), some(many)...), state(top-uint64(many), some(8-many)...)
		op := pact.Op{Kind: 5 - many%6, Amount: uint64(many), Id: top, Cond: cond(uint64(many), api.Side(many%2), 3)}
		o := deed.Lay(octet.Out{}.One(5), a)
		in := octet.Of(deed.Lay(deed.LayOp(o, op), b).One(6))
		in.One()
		if got := deed.Take(in); !same(got, a) || in.Left() != opSize+stateSize+(8-many)*condSize+1 || in.Bad() != api.OK {
			t.Errorf("P13.4: %v, left %d, bad %d; want %v", got, in.Left(), in.Bad(), a)
		}
		if got := deed.TakeOp(in); got != op || in.Bad() != api.OK {
			t.Errorf("P13.4: %v, bad %d; want %v", got, in.Bad(), op)
		}
		if got := deed.Take(in); !same(got, b) || in.Left() != 1 || in.Bad() != api.OK {
			t.Errorf("P13.4: %v, left %d, bad %d; want %v", got, in.Left(), in.Bad(), b)
		}
		if n := in.One(); n != 6 || in.End() != api.OK {
			t.Errorf("P13.1: behind them: %d, end %d", n, in.End())
		}
	}
}

// P13.1: of a Kind that one byte doesn't hold, the lowest one is taken; there need not be such a kind.
func TestTakeOpKinds(t *testing.T) {
	for kind := range 300 {
		in := octet.Of(deed.LayOp(nil, pact.Op{Kind: kind, Amount: 7}))
		if got := deed.TakeOp(in); got != (pact.Op{Kind: kind % 256, Amount: 7}) || in.End() != api.OK {
			t.Errorf("P13.1: kind %d: %v, end %d", kind, got, in.End())
		}
	}
}

// P13.1, P13.4: states and wishes by chance, at the ends of the numbers.
func TestTakeByChance(t *testing.T) {
	d := rand.New(rand.NewSource(13))
	n := func() uint64 { return d.Uint64() >> (d.Intn(5) * 16) }
	one := func() api.Cond {
		c := api.Cond{Id: n(), By: api.Side(d.Intn(2)), Amount: n(), Expiry: n()}
		d.Read(c.Hash[:])
		return c
	}
	for range 2000 {
		s := api.State{Channel: d.Uint32() >> d.Intn(32), Round: n(), Moved: [2]uint64{n(), n()}, Taken: [2]uint64{n(), n()}}
		for range d.Intn(9) {
			s.Conds = append(s.Conds, one())
		}
		in := octet.Of(laidState(s))
		if got := deed.Take(in); !same(got, s) || in.End() != api.OK {
			t.Fatalf("P13.4: %v, %d; want %v", got, in.End(), s)
		}
		if !bytes.Equal(deed.Lay(nil, s), laidState(s)) {
			t.Fatalf("P13.1: Lay of %v", s)
		}
		op := pact.Op{Kind: d.Intn(256), Amount: n(), Id: n(), Cond: one()}
		in = octet.Of(laidOp(op))
		if got := deed.TakeOp(in); got != op || in.End() != api.OK {
			t.Fatalf("P13.4: %v, %d; want %v", got, in.End(), op)
		}
	}
}

// wantBad: of these bytes nothing is taken as a state.
func wantBad(t *testing.T, name string, p []byte, want api.Errno) {
	t.Helper()
	in := octet.Of(p)
	if got := deed.Take(in); !same(got, api.State{}) || in.Bad() != want || in.Left() != 0 || in.End() != want {
		t.Errorf("P13.1: %s: %v, bad %d, left %d; want %d", name, got, in.Bad(), in.Left(), want)
	}
}

func wantBadOp(t *testing.T, name string, p []byte, want api.Errno) {
	t.Helper()
	in := octet.Of(p)
	if got := deed.TakeOp(in); got != (pact.Op{}) || in.Bad() != want || in.Left() != 0 || in.End() != want {
		t.Errorf("P13.1: %s: %v, bad %d, left %d; want %d", name, got, in.Bad(), in.Left(), want)
	}
}

// P13.1: bytes cut short at each length.
func TestTakeShort(t *testing.T) {
	for _, many := range []int{0, 1, 8} {
		full := laidState(state(9, some(many)...))
		for n := range full {
			wantBad(t, "cut short", full[:n], api.ErrShort)
		}
	}
	full := laidOp(pact.Op{Kind: 2, Amount: 3, Id: 4, Cond: cond(5, 1, 6)})
	for n := range full {
		wantBadOp(t, "a wish cut short", full[:n], api.ErrShort)
	}
}

// P13.1: more than 8 payments: ErrLimit, whatever is left behind.
func TestTakeLimit(t *testing.T) {
	for _, many := range []int{9, 10, 16, 128, 255} {
		full := laidState(state(9, some(many)...))
		for _, p := range [][]byte{full, append(slices.Clone(full), 1, 2), full[:len(full)-1], full[:stateSize], full[:stateSize+1], full[:stateSize+condSize]} {
			wantBad(t, "too many payments", p, api.ErrLimit)
		}
		full[stateSize+byAt] = 2
		wantBad(t, "too many payments, the first one by no side", full, api.ErrLimit)
	}
	// Of 256 and more payments the lowest byte tells fewer, and the others are left behind.
	in := octet.Of(laidState(state(9, some(258)...)))
	if got := deed.Take(in); !same(got, state(9, some(2)...)) || in.Left() != 256*condSize || in.End() != api.ErrForm {
		t.Errorf("P13.1: of 258 payments: %v, left %d, end %d", got, in.Left(), in.End())
	}
}

// P13.1: payments by other numbers than 0 and 1, at each place; what is wrong is told behind the payment.
func TestTakeForm(t *testing.T) {
	for _, by := range []byte{2, 3, 127, 128, 254, 255} {
		for many := 1; many <= 8; many++ {
			for place := range many {
				full := laidState(state(9, some(many)...))
				at := stateSize + place*condSize
				full[at+byAt] = by
				wantBad(t, "by no side", full, api.ErrForm)
				wantBad(t, "by no side, and bytes left", append(slices.Clone(full), 1), api.ErrForm)
				for n := at; n < at+condSize; n++ {
					wantBad(t, "by no side, and cut short in it", full[:n], api.ErrShort)
				}
				wantBad(t, "by no side, and cut short behind it", full[:at+condSize], api.ErrForm)
				wantBad(t, "by no side, and cut short at last", full[:max(at+condSize, len(full)-1)], api.ErrForm)
			}
		}
		full := laidOp(pact.Op{Kind: 2, Cond: cond(5, 1, 6)})
		full[17+byAt] = by
		wantBadOp(t, "a wish by no side", full, api.ErrForm)
		wantBadOp(t, "a wish by no side, and bytes left", append(slices.Clone(full), 1), api.ErrForm)
		for n := 17; n < opSize; n++ {
			wantBadOp(t, "a wish by no side, and cut short", full[:n], api.ErrShort)
		}
	}
}

// P13.1: of a nil In, and of one with which something was wrong before, all is zero.
func TestTakeBad(t *testing.T) {
	if s, op := deed.Take(nil), deed.TakeOp(nil); !same(s, api.State{}) || op != (pact.Op{}) {
		t.Errorf("P13.1: of a nil In: %v, %v", s, op)
	}
	both := append(laidState(state(9, some(2)...)), laidOp(pact.Op{Kind: 2, Amount: 3})...)
	in := octet.Of(both)
	in.Fail(api.ErrRound)
	if s, op := deed.Take(in), deed.TakeOp(in); !same(s, api.State{}) || op != (pact.Op{}) || in.Bad() != api.ErrRound || in.Left() != 0 {
		t.Errorf("P13.1: of a bad In: %v, %v, bad %d", s, op, in.Bad())
	}
	deed.Take(&octet.In{})
	deed.TakeOp(&octet.In{})
}

// R3: payments that are taken are new memory, their spare room too.
func TestTakeNewMemory(t *testing.T) {
	for many := range 9 {
		s := state(9, some(many)...)
		p := laidState(s)
		in := octet.Of(append(slices.Clone(p), p...))
		first := deed.Take(in)
		clear(first.Conds[:cap(first.Conds)])
		if second := deed.Take(in); !same(second, s) {
			t.Error("R3: two states that were taken share their memory")
		}
	}
}

// sumOf is a state's sum by the library's SHA-256 and layer 3's words.
func sumOf(s api.State) api.Digest {
	laid := laidState(s)
	p := []byte{4, 2, 0, 0, 0, 4}
	p = binary.BigEndian.AppendUint32(p, s.Channel)
	p = binary.BigEndian.AppendUint32(p, uint32(len(laid)))
	return sha256.Sum256(append(p, laid...))
}

// P13.1: sums that were worked out outside of this project.
func TestSumWrittenOut(t *testing.T) {
	for _, c := range []struct {
		s    api.State
		want string
	}{
		{api.State{}, "f1b9c4e65d2fd5f463f4b44c67fe9333f7c64a4fe2404f85fa488f7f7bf14792"},
		{pact.New(3), "3c48159fe196dbafeb028e5dfb1258ce4b28e5b9f2ca6d1f52779c99edc9a6e5"},
		{writtenOut(), "26116ba08aa793bc47a3c11d2478fe09e66fa29c165940f72d10d4c6fc8ca1da"},
	} {
		sum := deed.Sum(c.s)
		if got := hex.EncodeToString(sum[:]); got != c.want {
			t.Errorf("P13.1: Sum of %v: %s, want %s", c.s, got, c.want)
		}
	}
}

// P13.1: sums of states of any size, which hang on every field.
func TestSum(t *testing.T) {
	for _, many := range []int{0, 1, 8, 9, 255, 256, 300} {
		s := state(9, some(many)...)
		if got := deed.Sum(s); got != sumOf(s) {
			t.Errorf("P13.1: Sum of %d payments: %x", many, got)
		}
		if !slices.Equal(s.Conds, some(many)) {
			t.Error("R3: Sum changed the payments")
		}
	}
	empty := pact.New(3)
	empty.Conds = []api.Cond{}
	if deed.Sum(empty) != deed.Sum(pact.New(3)) {
		t.Error("R4: nil and no payments have two sums")
	}
	met := map[api.Digest]string{deed.Sum(writtenOut()): "nothing"}
	for name, turn := range turnings() {
		s := pact.Twin(writtenOut())
		turn(&s)
		sum := deed.Sum(s)
		if other, is := met[sum]; is {
			t.Errorf("P13.1: one sum in spite of %s and %s", name, other)
		}
		met[sum] = name
	}
}

// turnings turn each field of the state that is written out.
func turnings() map[string]func(*api.State) {
	return map[string]func(*api.State){
		"Channel":        func(s *api.State) { s.Channel++ },
		"Round":          func(s *api.State) { s.Round-- },
		"Moved of Left":  func(s *api.State) { s.Moved[0]++ },
		"Moved of Right": func(s *api.State) { s.Moved[1]-- },
		"Taken of Left":  func(s *api.State) { s.Taken[0]++ },
		"Taken of Right": func(s *api.State) { s.Taken[1]++ },
		"none":           func(s *api.State) { s.Conds = nil },
		"one less":       func(s *api.State) { s.Conds = s.Conds[:1] },
		"one more":       func(s *api.State) { s.Conds = append(s.Conds, api.Cond{}) },
		"order":          func(s *api.State) { s.Conds[0], s.Conds[1] = s.Conds[1], s.Conds[0] },
		"Id":             func(s *api.State) { s.Conds[0].Id++ },
		"By":             func(s *api.State) { s.Conds[1].By = 0 },
		"Amount":         func(s *api.State) { s.Conds[0].Amount += 1 << 40 },
		"Hash":           func(s *api.State) { s.Conds[1].Hash[31]-- },
		"Hash, first":    func(s *api.State) { s.Conds[1].Hash[0] ^= 128 },
		"Expiry":         func(s *api.State) { s.Conds[1].Expiry++ },
	}
}
