package money_test

import (
	"math"
	"math/big"
	"slices"
	"testing"

	"tollhouse/api"
	"tollhouse/money"
)

const top = math.MaxUint64

// edges are amounts at which something may go round.
var edges = []uint64{0, 1, 2, 3, 7, 999999, 1000000, 1000001, 1<<32 - 1, 1 << 32, 1<<32 + 1, 1<<63 - 1, 1 << 63, 1<<63 + 1, top - 1, top}

func num(a uint64) *big.Int { return new(big.Int).SetUint64(a) }

// fit is what a number without bounds comes to as an amount.
func fit(n *big.Int) (uint64, api.Errno) {
	if n.Sign() < 0 {
		return 0, api.ErrUnder
	}
	if !n.IsUint64() {
		return 0, api.ErrOver
	}
	return n.Uint64(), api.OK
}

// parts are a times many by of, rounded down and up.
func parts(a, many, of uint64) (down, up *big.Int) {
	down, rest := new(big.Int).QuoRem(new(big.Int).Mul(num(a), num(many)), num(of), new(big.Int))
	up = new(big.Int).Set(down)
	if rest.Sign() != 0 {
		up.Add(up, big.NewInt(1))
	}
	return down, up
}

// P2.1.
func TestAddSubMul(t *testing.T) {
	for _, a := range edges {
		for _, b := range edges {
			want, e := fit(new(big.Int).Add(num(a), num(b)))
			if got, f := money.Add(a, b); got != want || f != e {
				t.Errorf("P2.1: Add(%d, %d): %d, %d; want %d, %d", a, b, got, f, want, e)
			}
			want, e = fit(new(big.Int).Sub(num(a), num(b)))
			if got, f := money.Sub(a, b); got != want || f != e {
				t.Errorf("P2.1: Sub(%d, %d): %d, %d; want %d, %d", a, b, got, f, want, e)
			}
			want, e = fit(new(big.Int).Mul(num(a), num(b)))
			if got, f := money.Mul(a, b); got != want || f != e {
				t.Errorf("P2.1: Mul(%d, %d): %d, %d; want %d, %d", a, b, got, f, want, e)
			}
		}
	}
}

// P2.1: the ends, written out.
func TestEnds(t *testing.T) {
	for _, c := range []struct {
		name string
		call func(a, b uint64) (uint64, api.Errno)
		a, b uint64
		want uint64
		e    api.Errno
	}{
		{"Add", money.Add, 3, 4, 7, api.OK},
		{"Add", money.Add, top - 1, 1, top, api.OK},
		{"Add", money.Add, top, 1, 0, api.ErrOver},
		{"Add", money.Add, 1, top, 0, api.ErrOver},
		{"Add", money.Add, top, top, 0, api.ErrOver},
		{"Sub", money.Sub, 7, 4, 3, api.OK},
		{"Sub", money.Sub, 4, 4, 0, api.OK},
		{"Sub", money.Sub, 4, 5, 0, api.ErrUnder},
		{"Sub", money.Sub, 0, top, 0, api.ErrUnder},
		{"Mul", money.Mul, 3, 4, 12, api.OK},
		{"Mul", money.Mul, 0, top, 0, api.OK},
		{"Mul", money.Mul, 3, top / 3, top, api.OK},
		{"Mul", money.Mul, 1 << 32, 1 << 32, 0, api.ErrOver},
		{"Mul", money.Mul, top, 2, 0, api.ErrOver},
	} {
		if got, e := c.call(c.a, c.b); got != c.want || e != c.e {
			t.Errorf("P2.1: %s(%d, %d): %d, %d; want %d, %d", c.name, c.a, c.b, got, e, c.want, c.e)
		}
	}
}

// P2.1.
func TestSum(t *testing.T) {
	for _, c := range []struct {
		l    []uint64
		want uint64
		e    api.Errno
	}{
		{nil, 0, api.OK},
		{[]uint64{}, 0, api.OK},
		{[]uint64{5}, 5, api.OK},
		{[]uint64{1, 2, 3, 4}, 10, api.OK},
		{[]uint64{top}, top, api.OK},
		{[]uint64{0, top, 0}, top, api.OK},
		{[]uint64{top - 3, 1, 2}, top, api.OK},
		{[]uint64{top - 3, 1, 2, 1}, 0, api.ErrOver},
		{[]uint64{top, 1}, 0, api.ErrOver},
		{[]uint64{1, top}, 0, api.ErrOver},
		{[]uint64{top, 1, 5}, 0, api.ErrOver},
		{[]uint64{1 << 63, 1 << 63, 7}, 0, api.ErrOver},
	} {
		if got, e := money.Sum(c.l...); got != c.want || e != c.e {
			t.Errorf("P2.1: Sum(%d): %d, %d; want %d, %d", c.l, got, e, c.want, c.e)
		}
	}
}

// P2.1.
func TestPartUp(t *testing.T) {
	for _, a := range edges {
		for _, many := range edges {
			for _, of := range edges[1:] {
				down, up := parts(a, many, of)
				want, e := fit(down)
				if got, f := money.Part(a, many, of); got != want || f != e {
					t.Errorf("P2.1: Part(%d, %d, %d): %d, %d; want %d, %d", a, many, of, got, f, want, e)
				}
				want, e = fit(up)
				if got, f := money.Up(a, many, of); got != want || f != e {
					t.Errorf("P2.1: Up(%d, %d, %d): %d, %d; want %d, %d", a, many, of, got, f, want, e)
				}
			}
		}
	}
}

// P2.1: the example, and the ends, written out.
func TestPartUpEnds(t *testing.T) {
	for _, c := range []struct {
		a, many, of uint64
		down        uint64
		de          api.Errno
		up          uint64
		ue          api.Errno
	}{
		{7, 1, 2, 3, api.OK, 4, api.OK},
		{8, 1, 2, 4, api.OK, 4, api.OK},
		{0, 5, 3, 0, api.OK, 0, api.OK},
		{1, 1, top, 0, api.OK, 1, api.OK},
		{top, top, top, top, api.OK, top, api.OK},
		{top, 1, 1, top, api.OK, top, api.OK},
		{top, 2, 1, 0, api.ErrOver, 0, api.ErrOver},
		{top, top, top - 1, 0, api.ErrOver, 0, api.ErrOver},
		// Rounded down it is 2^64 - 1 just so, rounded up one more.
		{15811494920322472813, 7, 6, top, api.OK, 0, api.ErrOver},
		{7, 1, 0, 0, api.ErrArg, 0, api.ErrArg},
		{0, 0, 0, 0, api.ErrArg, 0, api.ErrArg},
		{top, top, 0, 0, api.ErrArg, 0, api.ErrArg},
	} {
		if got, e := money.Part(c.a, c.many, c.of); got != c.down || e != c.de {
			t.Errorf("P2.1: Part(%d, %d, %d): %d, %d; want %d, %d", c.a, c.many, c.of, got, e, c.down, c.de)
		}
		if got, e := money.Up(c.a, c.many, c.of); got != c.up || e != c.ue {
			t.Errorf("P2.1: Up(%d, %d, %d): %d, %d; want %d, %d", c.a, c.many, c.of, got, e, c.up, c.ue)
		}
	}
}

// P2.2.
func TestFee(t *testing.T) {
	for _, c := range []struct {
		base, rate, amount uint64
		fee                uint64
		fe                 api.Errno
		over               uint64
		oe                 api.Errno
	}{
		{1, 10000, 500, 6, api.OK, 506, api.OK},
		{0, 0, 500, 0, api.OK, 500, api.OK},
		{3, 0, 500, 3, api.OK, 503, api.OK},
		{3, 10000, 0, 3, api.OK, 3, api.OK},
		{0, 1, 999999, 0, api.OK, 999999, api.OK},
		{0, 1, 1000000, 1, api.OK, 1000001, api.OK},
		{0, 1000000, 7, 7, api.OK, 14, api.OK},
		{0, 3000000, 7, 21, api.OK, 28, api.OK},
		{top, 0, 0, top, api.OK, top, api.OK},
		{top, 0, 1, top, api.OK, 0, api.ErrOver},
		{top, 1000000, 1, 0, api.ErrOver, 0, api.ErrOver},
		{top - 1, 1000000, 1, top, api.OK, 0, api.ErrOver},
		{0, 1000000, top, top, api.OK, 0, api.ErrOver},
		{0, 1000001, top, 0, api.ErrOver, 0, api.ErrOver},
		{1, 1000000, top, 0, api.ErrOver, 0, api.ErrOver},
		{0, 0, top, 0, api.OK, top, api.OK},
		{1, 0, top - 1, 1, api.OK, top, api.OK},
		{1, 0, top, 1, api.OK, 0, api.ErrOver},
		{top, top, top, 0, api.ErrOver, 0, api.ErrOver},
	} {
		f := money.Fee{Base: c.base, Rate: c.rate}
		if got, e := f.Of(c.amount); got != c.fee || e != c.fe {
			t.Errorf("P2.2: %v.Of(%d): %d, %d; want %d, %d", f, c.amount, got, e, c.fee, c.fe)
		}
		if got, e := f.Over(c.amount); got != c.over || e != c.oe {
			t.Errorf("P2.2: %v.Over(%d): %d, %d; want %d, %d", f, c.amount, got, e, c.over, c.oe)
		}
	}
}

// P2.2: at the edges, against numbers without bounds.
func TestFeeEdges(t *testing.T) {
	for _, base := range edges {
		for _, rate := range edges {
			for _, amount := range edges {
				f := money.Fee{Base: base, Rate: rate}
				part, _ := parts(amount, rate, 1000000)
				fee := part.Add(part, num(base))
				want, e := fit(fee)
				if got, g := f.Of(amount); got != want || g != e {
					t.Errorf("P2.2: %v.Of(%d): %d, %d; want %d, %d", f, amount, got, g, want, e)
				}
				want, e = fit(new(big.Int).Add(fee, num(amount)))
				if got, g := f.Over(amount); got != want || g != e {
					t.Errorf("P2.2: %v.Over(%d): %d, %d; want %d, %d", f, amount, got, g, want, e)
				}
			}
		}
	}
}

// P2.2.
func TestBack(t *testing.T) {
	one := money.Fee{Base: 1, Rate: 10000}
	ten := money.Fee{Base: 10}
	double := money.Fee{Rate: 1000000}
	for _, c := range []struct {
		amount uint64
		fees   []money.Fee
		want   []uint64
		e      api.Errno
	}{
		{500, nil, []uint64{500}, api.OK},
		{500, []money.Fee{}, []uint64{500}, api.OK},
		{0, nil, []uint64{0}, api.OK},
		{500, []money.Fee{one}, []uint64{506, 500}, api.OK},
		{500, []money.Fee{one, ten}, []uint64{516, 510, 500}, api.OK},
		{500, []money.Fee{ten, one}, []uint64{516, 506, 500}, api.OK},
		{5, []money.Fee{double, ten}, []uint64{30, 15, 5}, api.OK},
		{5, []money.Fee{ten, double}, []uint64{20, 10, 5}, api.OK},
		{5, []money.Fee{{}, {}, {}}, []uint64{5, 5, 5, 5}, api.OK},
		{top - 10, []money.Fee{ten}, []uint64{top, top - 10}, api.OK},
		{top - 9, []money.Fee{ten}, nil, api.ErrOver},
		{1 << 62, []money.Fee{double, double}, nil, api.ErrOver},
		{1 << 62, []money.Fee{{}, double}, []uint64{1 << 63, 1 << 63, 1 << 62}, api.OK},
		{top, []money.Fee{{}, ten}, nil, api.ErrOver},
		{top, nil, []uint64{top}, api.OK},
	} {
		got, e := money.Back(c.amount, c.fees...)
		if !slices.Equal(got, c.want) || e != c.e {
			t.Errorf("P2.2: Back(%d, %v): %d, %d; want %d, %d", c.amount, c.fees, got, e, c.want, c.e)
		}
	}
}

// P2.3.
func TestShare(t *testing.T) {
	for _, c := range []struct {
		amount  uint64
		weights []uint64
		want    []uint64
		e       api.Errno
	}{
		{10, []uint64{1, 1, 1}, []uint64{4, 3, 3}, api.OK},
		{11, []uint64{1, 1, 1}, []uint64{4, 4, 3}, api.OK},
		{12, []uint64{1, 1, 1}, []uint64{4, 4, 4}, api.OK},
		{2, []uint64{1, 1, 1}, []uint64{1, 1, 0}, api.OK},
		{0, []uint64{1, 2}, []uint64{0, 0}, api.OK},
		{10, []uint64{3}, []uint64{10}, api.OK},
		{10, []uint64{0, 3, 0}, []uint64{0, 10, 0}, api.OK},
		{11, []uint64{0, 1, 0, 1, 1}, []uint64{0, 4, 0, 4, 3}, api.OK},
		{10, []uint64{1, 2, 4}, []uint64{2, 3, 5}, api.OK},
		// What is left goes to the first ones, even if their part was whole.
		{3, []uint64{2, 1, 1, 2}, []uint64{2, 0, 0, 1}, api.OK},
		{top, []uint64{1}, []uint64{top}, api.OK},
		{top, []uint64{1, 1}, []uint64{1 << 63, 1<<63 - 1}, api.OK},
		{top, []uint64{top - 1, 1}, []uint64{top - 1, 1}, api.OK},
		{top, []uint64{top}, []uint64{top}, api.OK},
		{1, []uint64{1, top - 1}, []uint64{1, 0}, api.OK},
		{10, nil, nil, api.ErrArg},
		{10, []uint64{}, nil, api.ErrArg},
		{10, []uint64{0}, nil, api.ErrArg},
		{0, []uint64{0, 0}, nil, api.ErrArg},
		{10, []uint64{top, 1}, nil, api.ErrOver},
		{0, []uint64{0, top, 0, top}, nil, api.ErrOver},
		{10, []uint64{1 << 63, 1 << 63}, nil, api.ErrOver},
	} {
		got, e := money.Share(c.amount, c.weights...)
		if !slices.Equal(got, c.want) || e != c.e {
			t.Errorf("P2.3: Share(%d, %d): %d, %d; want %d, %d", c.amount, c.weights, got, e, c.want, c.e)
		}
	}
}

// steps are numbers without a pattern, always the same ones.
type steps uint64

func (s *steps) next() uint64 {
	*s = *s*6364136223846793005 + 1442695040888963407
	x := uint64(*s)
	return (x ^ x>>29) >> (x >> 58)
}

// someWeights come to no more than 2^64 - 1.
func someWeights(s *steps) []uint64 {
	left := s.next()
	l := make([]uint64, 1+s.next()%9)
	for i := range l {
		if s.next()%3 != 0 {
			l[i] = s.next() % (left/2 + 1)
			left -= l[i]
		}
	}
	return l
}

// P2.3, P2.4.
func TestShareComesToAll(t *testing.T) {
	s := steps(3)
	for range 2000 {
		amount, weights := s.next(), someWeights(&s)
		got, e := money.Share(amount, weights...)
		all, _ := money.Sum(weights...)
		if all == 0 {
			if e != api.ErrArg || len(got) != 0 {
				t.Errorf("P2.3: Share(%d, %d): %d, %d", amount, weights, got, e)
			}
			continue
		}
		if e != api.OK || len(got) != len(weights) {
			t.Fatalf("P2.3: Share(%d, %d): %d, %d", amount, weights, got, e)
		}
		checkShare(t, amount, all, weights, got)
	}
}

func checkShare(t *testing.T, amount, all uint64, weights, got []uint64) {
	if sum, e := money.Sum(got...); sum != amount || e != api.OK {
		t.Errorf("P2.4: Share(%d, %d): %d comes to %d", amount, weights, got, sum)
	}
	more := true // whether those so far have got one more
	for i, w := range weights {
		if w == 0 {
			if got[i] != 0 {
				t.Errorf("P2.4: Share(%d, %d): %d has no weight and %d", amount, weights, i, got[i])
			}
			continue
		}
		part, _ := parts(amount, w, all)
		switch down := part.Uint64(); {
		case got[i] == down+1 && more:
		case got[i] == down:
			more = false
		default:
			t.Errorf("P2.3: Share(%d, %d): %d has %d", amount, weights, i, got[i])
		}
	}
}

// P2.4: who is paid has his fee.
func TestBackPaysFees(t *testing.T) {
	s := steps(5)
	paid := 0
	for range 500 {
		amount := s.next() >> 8
		fees := make([]money.Fee, s.next()%6)
		for i := range fees {
			fees[i] = money.Fee{Base: s.next() >> 20, Rate: s.next() >> 40}
		}
		l, e := money.Back(amount, fees...)
		if e != api.OK {
			if e != api.ErrOver || len(l) != 0 {
				t.Errorf("P2.4: Back(%d, %v): %d, %d", amount, fees, l, e)
			}
			continue
		}
		if len(l) != len(fees)+1 || l[len(fees)] != amount {
			t.Fatalf("P2.4: Back(%d, %v): %d", amount, fees, l)
		}
		for i, f := range fees {
			fee, e := f.Of(l[i+1])
			if e != api.OK || l[i] < l[i+1] || l[i]-l[i+1] != fee {
				t.Errorf("P2.4: Back(%d, %v): %d: %d has %d less %d", amount, fees, l, i, l[i], l[i+1])
			}
			paid++
		}
	}
	if paid < 100 {
		t.Errorf("only %d fees were looked at", paid)
	}
}

// R3: lists handed in are neither changed nor handed out.
func TestListsAreNew(t *testing.T) {
	weights := []uint64{1, 2, 3, 99}
	shares, _ := money.Share(12, weights[:3]...)
	shares[0] = 77
	shares = append(shares, 78)
	if !slices.Equal(weights, []uint64{1, 2, 3, 99}) {
		t.Errorf("R3: weights are %d", weights)
	}
	again, _ := money.Share(12, weights[:3]...)
	if !slices.Equal(again, []uint64{2, 4, 6}) {
		t.Errorf("R5: Share: %d, then %d", shares, again)
	}
	fees := []money.Fee{{Base: 1}, {Base: 2}, {Base: 99}}
	if l, _ := money.Back(5, fees[:2]...); !slices.Equal(l, []uint64{8, 7, 5}) {
		t.Errorf("P2.2: Back: %d", l)
	}
	if !slices.Equal(fees, []money.Fee{{Base: 1}, {Base: 2}, {Base: 99}}) {
		t.Errorf("R3: fees are %v", fees)
	}
	amounts := []uint64{1, 2, 3}
	money.Sum(amounts[:2]...)
	if !slices.Equal(amounts, []uint64{1, 2, 3}) {
		t.Errorf("R3: amounts are %d", amounts)
	}
}
