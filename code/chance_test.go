package code_test

import (
	"bytes"
	"math/big"
	"math/rand"
	"strings"
	"testing"

	"tollhouse/api"
	"tollhouse/code"
)

// ended is what came of a run.
type ended struct {
	answer uint64
	cost   int
	e      api.Errno
}

func runOf(p []byte, w code.World, gas int) ended {
	a, c, e := code.Run(p, w, gas)
	return ended{a, c, e}
}

// book is a run by the chapter's words: numbers without end, the topmost one first.
type book struct {
	p     []byte
	w     code.World
	place int
	stack []*big.Int
	cost  int
}

// run does order behind order, each at its own place.
func (b *book) run(gas int) ended {
	for {
		rest := b.p[min(b.place, len(b.p)):]
		switch {
		case len(rest) > 0 && int(rest[0]) >= len(forms):
			return ended{0, b.cost, api.ErrOp}
		case len(rest) == 0 || len(rest) <= forms[rest[0]].follows:
			return ended{0, b.cost, api.ErrShort}
		}
		f := forms[rest[0]]
		if b.cost+f.costs > gas {
			return ended{0, b.cost, api.ErrGas}
		}
		b.cost += f.costs
		b.place += 1 + f.follows
		if len(b.stack) < f.takes {
			return ended{0, b.cost, api.ErrUnder}
		}
		taken := append([]*big.Int{}, b.stack[:f.takes]...)
		b.stack = b.stack[f.takes:]
		if f.name == "halt" {
			return ended{taken[0].Uint64(), b.cost, api.OK}
		}
		laid, e := b.does(f.name, taken, new(big.Int).SetBytes(rest[1:1+f.follows]))
		if e != api.OK {
			return ended{0, b.cost, e}
		}
		for _, n := range laid {
			if len(b.stack) == 32 {
				return ended{0, b.cost, api.ErrFull}
			}
			b.stack = append([]*big.Int{n}, b.stack...)
		}
	}
}

// does is what an order lays that took these, the topmost one first; number is what follows it.
func (b *book) does(name string, taken []*big.Int, number *big.Int) ([]*big.Int, api.Errno) {
	truth := func(is bool) ([]*big.Int, api.Errno) {
		if is {
			return []*big.Int{big.NewInt(1)}, api.OK
		}
		return []*big.Int{new(big.Int)}, api.OK
	}
	amount := func(n *big.Int) ([]*big.Int, api.Errno) {
		if n.Sign() < 0 {
			return nil, api.ErrUnder
		}
		if n.BitLen() > 64 {
			return nil, api.ErrOver
		}
		return []*big.Int{n}, api.OK
	}
	i := int(number.Uint64())
	switch name {
	case "push":
		return []*big.Int{number}, api.OK
	case "load":
		if i >= len(b.w.Fields) {
			return nil, api.ErrArg
		}
		return amount(new(big.Int).SetUint64(b.w.Fields[i]))
	case "add":
		return amount(new(big.Int).Add(taken[1], taken[0]))
	case "sub":
		return amount(new(big.Int).Sub(taken[1], taken[0]))
	case "mul":
		return amount(new(big.Int).Mul(taken[1], taken[0]))
	case "less":
		return truth(taken[1].Cmp(taken[0]) < 0)
	case "same":
		return truth(taken[1].Cmp(taken[0]) == 0)
	case "not":
		return truth(taken[0].Sign() == 0)
	case "both":
		return truth(taken[0].Sign()*taken[1].Sign() != 0)
	case "any":
		return truth(taken[0].Sign()+taken[1].Sign() != 0)
	case "jump":
		b.place = i
	case "if":
		if taken[0].Sign() != 0 {
			b.place = i
		}
	case "twice":
		return []*big.Int{taken[0], taken[0]}, api.OK
	case "swap":
		return []*big.Int{taken[0], taken[1]}, api.OK
	case "paid":
		if i >= len(b.w.Paid) {
			return nil, api.ErrArg
		}
		return truth(b.w.Paid[i])
	case "now":
		return amount(new(big.Int).SetUint64(b.w.Height))
	}
	return nil, api.OK
}

var amounts = []uint64{0, 1, 2, 3, 1 << 32, 1<<32 - 1, 1 << 63, 1<<63 - 1, top - 1, top}

// someOrders are orders by chance; places that are gone to are most often within the program.
func someOrders(r *rand.Rand, many int) []byte {
	var p []byte
	for range many {
		f := forms[r.Intn(len(forms))]
		if r.Intn(3) > 0 {
			f = forms[[]int{1, 2, 17, 13, 12}[r.Intn(5)]]
		}
		follows := make([]byte, f.follows)
		switch f.follows {
		case 1:
			follows[0] = byte(r.Intn(5))
		case 2:
			follows[1] = byte(r.Intn(3 * many))
		case 8:
			follows = push(amounts[r.Intn(len(amounts))])[1:]
		}
		p = append(append(p, f.op), follows...)
	}
	return p
}

// someProgram is often not whole, now and then no more than bytes.
func someProgram(r *rand.Rand) []byte {
	if r.Intn(5) == 0 {
		p := make([]byte, r.Intn(30))
		for i := range p {
			p[i] = byte(r.Intn(20))
		}
		return p
	}
	p := someOrders(r, 1+r.Intn(40))
	if r.Intn(3) == 0 {
		p[r.Intn(len(p))] = byte(r.Intn(256))
	}
	return p[:min(len(p), api.MaxCode)]
}

func someWorld(r *rand.Rand) code.World {
	w := code.World{Height: amounts[r.Intn(len(amounts))]}
	for range r.Intn(6) {
		w.Fields = append(w.Fields, amounts[r.Intn(len(amounts))])
		w.Paid = append(w.Paid, r.Intn(2) == 0)
	}
	return w
}

// P11.1: programs by chance come to what they come to by the book, and in all ways that there are.
func TestByChance(t *testing.T) {
	r := rand.New(rand.NewSource(11))
	seen := map[api.Errno]int{}
	for range 40000 {
		p, w, gas := someProgram(r), someWorld(r), r.Intn(120)
		got := runOf(p, w, gas)
		if want := (&book{p: p, w: w}).run(gas); got != want {
			t.Fatalf("P11.1: %v, %v, gas %d: %v; want %v", p, w, gas, got, want)
		}
		if again := runOf(p, w, gas); again != got {
			t.Fatalf("R5: %v: %v, and then %v", p, got, again)
		}
		seen[got.e]++
	}
	for _, e := range []api.Errno{api.OK, api.ErrShort, api.ErrOp, api.ErrGas, api.ErrUnder, api.ErrOver, api.ErrFull, api.ErrArg} {
		if seen[e] < 20 {
			t.Errorf("P11.1: the error %d came only %d times", e, seen[e])
		}
	}
}

// P11.1: all programs of at most two bytes.
func TestShortOnes(t *testing.T) {
	w := worldOf()
	for a := range 256 {
		for b := range 256 {
			for _, p := range [][]byte{{byte(a)}, {byte(a), byte(b)}} {
				if got, want := runOf(p, w, 30), (&book{p: p, w: w}).run(30); got != want {
					t.Fatalf("P11.1: %v: %v; want %v", p, got, want)
				}
			}
		}
	}
}

// P11.3: no run costs more than its gas, and once it ends otherwise than by ErrGas, more gas changes nothing.
func TestMoreGas(t *testing.T) {
	r := rand.New(rand.NewSource(12))
	for range 300 {
		p, w := someProgram(r), someWorld(r)
		before := runOf(p, w, 0)
		for gas := range 200 {
			now := runOf(p, w, gas)
			if now.cost > gas || now.cost < before.cost {
				t.Fatalf("P11.3: %v, gas %d: %v", p, gas, now)
			}
			if before.e != api.ErrGas && now != before {
				t.Fatalf("P11.3: %v, gas %d: %v, with less gas %v", p, gas, now, before)
			}
			before = now
		}
		if most := runOf(p, w, api.MaxGas); most.cost > api.MaxGas || before.e != api.ErrGas && most != before {
			t.Fatalf("P11.3: %v: %v, with less gas %v", p, most, before)
		}
	}
}

// wholeBook is Check by the chapter's words.
func wholeBook(p []byte) api.Errno {
	begins, goes := map[int]bool{}, []int{}
	for at := 0; at < len(p); {
		if int(p[at]) >= len(forms) {
			return api.ErrOp
		}
		f := forms[p[at]]
		if at+f.follows >= len(p) {
			return api.ErrShort
		}
		begins[at] = true
		if f.follows == 2 {
			goes = append(goes, int(p[at+1])<<8|int(p[at+2]))
		}
		at += 1 + f.follows
	}
	for _, place := range goes {
		if !begins[place] {
			return api.ErrForm
		}
	}
	return api.OK
}

// P11.2, P11.3: what is whole, and that its text leads back to it.
func TestThereAndBack(t *testing.T) {
	r := rand.New(rand.NewSource(13))
	seen := map[api.Errno]int{}
	for range 40000 {
		p := someProgram(r)
		if r.Intn(2) == 0 {
			p = someOrders(r, 1+r.Intn(4))
		}
		want := wholeBook(p)
		seen[want]++
		text, e := code.Text(p)
		if got := code.Check(p); got != want || e != want {
			t.Fatalf("P11.2: %v: Check %d, Text %d; want %d", p, got, e, want)
		}
		if want != api.OK {
			continue
		}
		if back, e := code.Parse(text); e != api.OK || !bytes.Equal(back, p) {
			t.Fatalf("P11.3: %v: %q: %v, %d", p, text, back, e)
		}
	}
	for _, e := range []api.Errno{api.OK, api.ErrOp, api.ErrShort, api.ErrForm} {
		if seen[e] < 500 {
			t.Errorf("P11.2: the error %d came only %d times", e, seen[e])
		}
	}
}

// someText is made of pieces of texts, so that it is one at times.
func someText(r *rand.Rand) string {
	var s strings.Builder
	for i := range r.Intn(6) {
		if i > 0 {
			s.WriteString([]string{"\n", "\n", "\n", "\n", "\n\n", " ", ""}[r.Intn(7)])
		}
		f := forms[r.Intn(len(forms))]
		s.WriteString(f.name)
		if f.follows > 0 || r.Intn(20) == 0 {
			s.WriteString([]string{" ", " ", " ", " ", "  ", "", "\t"}[r.Intn(7)])
			s.WriteString([]string{"0", "0", "3", "1", "00", "+1", "-1", "255", "256", "65536", "18446744073709551615", "18446744073709551616", "01", ""}[r.Intn(14)])
		}
	}
	return s.String()
}

// P11.3: whatever text is parsed is the text of what comes of it.
func TestBackAndThere(t *testing.T) {
	r := rand.New(rand.NewSource(14))
	parsed := 0
	for range 40000 {
		text := someText(r)
		p, e := code.Parse(text)
		if e != api.OK {
			if len(p) != 0 {
				t.Fatalf("R2: %q: %v, %d", text, p, e)
			}
			continue
		}
		parsed++
		if e := code.Check(p); e != api.OK {
			t.Fatalf("P11.2: %q: %v isn't whole: %d", text, p, e)
		}
		if back, e := code.Text(p); e != api.OK || back != text {
			t.Fatalf("P11.3: %q: %v: %q, %d", text, p, back, e)
		}
	}
	if parsed < 5000 {
		t.Errorf("P11.3: only %d were parsed", parsed)
	}
}
