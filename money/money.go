// Package money is layer 2: see shared/doc/02-money.md.
package money

import (
	"math/bits"

	"tollhouse/api"
)

// Add is a sum; one that is too great is refused.
func Add(a, b uint64) (uint64, api.Errno) {
	sum, carry := bits.Add64(a, b, 0)
	if carry != 0 {
		return 0, api.ErrOver
	}
	return sum, api.OK
}

// Sub is a difference; one below nothing is refused.
func Sub(a, b uint64) (uint64, api.Errno) {
	if a < b {
		return 0, api.ErrUnder
	}
	return a - b, api.OK
}

// Mul is a product; one that is too great is refused.
func Mul(a, b uint64) (uint64, api.Errno) {
	high, low := bits.Mul64(a, b)
	if high != 0 {
		return 0, api.ErrOver
	}
	return low, api.OK
}

// Part is so many parts of so many, rounded down.
func Part(a, many, of uint64) (uint64, api.Errno) {
	part, _, e := divide(a, many, of)
	return part, e
}

// Up is so many parts of so many, rounded up.
func Up(a, many, of uint64) (uint64, api.Errno) {
	part, rest, e := divide(a, many, of)
	if e != api.OK || rest == 0 {
		return part, e
	}
	return Add(part, 1)
}

// divide is a times many by of, and the rest. The product may be above what an amount can be, as long as the part is not.
func divide(a, many, of uint64) (part, rest uint64, e api.Errno) {
	if of == 0 {
		return 0, 0, api.ErrArg
	}
	high, low := bits.Mul64(a, many)
	if high >= of {
		return 0, 0, api.ErrOver
	}
	part, rest = bits.Div64(high, low, of)
	return part, rest, api.OK
}

// Sum is the sum of some.
func Sum(l ...uint64) (uint64, api.Errno) {
	var sum uint64
	for _, a := range l {
		next, e := Add(sum, a)
		if e != api.OK {
			return 0, e
		}
		sum = next
	}
	return sum, api.OK
}

// Fee is what is asked for letting an amount through.
type Fee struct {
	Base uint64
	Rate uint64
}

// Of is the fee of an amount that is let through.
func (f Fee) Of(amount uint64) (uint64, api.Errno) {
	part, e := Part(amount, f.Rate, api.Scale)
	if e != api.OK {
		return 0, e
	}
	return Add(f.Base, part)
}

// Over is an amount, with its fee.
func (f Fee) Over(amount uint64) (uint64, api.Errno) {
	fee, e := f.Of(amount)
	if e != api.OK {
		return 0, e
	}
	return Add(amount, fee)
}

// Back are amounts for a way of such fees, the last one's first asked: what must set out, to let an amount arrive.
func Back(amount uint64, fees ...Fee) ([]uint64, api.Errno) {
	l := make([]uint64, len(fees)+1)
	l[len(fees)] = amount
	for i := len(fees) - 1; i >= 0; i-- {
		over, e := fees[i].Over(l[i+1])
		if e != api.OK {
			return nil, e
		}
		l[i] = over
	}
	return l, api.OK
}

// Share is an amount, shared by weights: all of it, as evenly as whole numbers let.
func Share(amount uint64, weights ...uint64) ([]uint64, api.Errno) {
	all, e := Sum(weights...)
	if e != api.OK {
		return nil, e
	}
	if all == 0 {
		return nil, api.ErrArg
	}
	l := make([]uint64, len(weights))
	left := amount
	for i, w := range weights {
		// A weight is at most all of them, so its part is at most the amount: no error comes of it.
		part, _ := Part(amount, w, all)
		l[i] = part
		left -= part
	}
	spread(l, left, weights)
	return l, api.OK
}

// spread adds what is left, one by one. Each weight's part was rounded down by less than one, so there are more weights that aren't 0 than are needed.
func spread(l []uint64, left uint64, weights []uint64) {
	for i, w := range weights {
		if left == 0 {
			return
		}
		if w != 0 {
			l[i]++
			left--
		}
	}
}
