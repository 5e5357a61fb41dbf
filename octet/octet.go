// Package octet is layer 1: see shared/doc/01-octet.md.
package octet

import (
	"tollhouse/api"
)

// Out are bytes, to which more are laid.
//
// A call may write into the room behind an Out's end. So each one that lays several things has all their bytes together first: things that lie in that very room are laid as they were handed in.
type Out []byte

// One, Four, Eight lay numbers of one, four, eight bytes.
func (o Out) One(l ...uint8) Out { return append(o, l...) }

func (o Out) Four(l ...uint32) Out {
	var laid []byte
	for _, n := range l {
		laid = layFour(laid, n)
	}
	return append(o, laid...)
}

func (o Out) Eight(l ...uint64) Out {
	var laid []byte
	for _, n := range l {
		laid = layFour(laid, uint32(n>>32))
		laid = layFour(laid, uint32(n))
	}
	return append(o, laid...)
}

// Sum lays sums.
func (o Out) Sum(l ...api.Digest) Out {
	var laid []byte
	for _, d := range l {
		laid = append(laid, d[:]...)
	}
	return append(o, laid...)
}

// Blob lays bytes, with how many there are ahead.
func (o Out) Blob(l ...[]byte) Out {
	var laid []byte
	for _, p := range l {
		laid = layFour(laid, uint32(len(p)))
		laid = append(laid, p...)
	}
	return append(o, laid...)
}

func layFour(p []byte, n uint32) []byte {
	return append(p, byte(n>>24), byte(n>>16), byte(n>>8), byte(n))
}

// In are bytes, off which things are taken; behind an error nothing is.
type In struct {
	rest []byte
	bad  api.Errno
}

// Of takes things off bytes.
func Of(p []byte) *In {
	// The caller may change p later on, so the In has bytes of its own.
	rest := make([]byte, len(p))
	copy(rest, p)
	return &In{rest: rest}
}

// Bad is what is wrong.
func (in *In) Bad() api.Errno {
	if in == nil {
		return api.ErrNil
	}
	return in.bad
}

// Fail says what is wrong, if nothing was.
func (in *In) Fail(e api.Errno) {
	if in == nil || in.bad != api.OK || e == api.OK {
		return
	}
	in.bad = e
	in.rest = nil
}

// Left is how many bytes are left.
func (in *In) Left() int {
	if in == nil {
		return 0
	}
	return len(in.rest)
}

// One, Four, Eight, Sum, Blob are the next things.
func (in *In) One() uint8 { return uint8(number(in.next(1))) }

func (in *In) Four() uint32 { return uint32(number(in.next(4))) }

func (in *In) Eight() uint64 { return number(in.next(8)) }

func (in *In) Sum() api.Digest {
	var d api.Digest
	copy(d[:], in.next(len(d)))
	return d
}

// Blob is the next bytes with their number, at most so many.
func (in *In) Blob(most int) []byte {
	n := in.Four()
	// MaxBlob is asked first: what is no more than it fits an int of any size. If Four found something wrong, n is 0, and that stays what is wrong.
	if n > api.MaxBlob || int(n) > most {
		in.Fail(api.ErrLimit)
		return nil
	}
	p := in.next(int(n))
	blob := make([]byte, len(p))
	copy(blob, p)
	return blob
}

// Many is how many things follow, at most so many.
func (in *In) Many(most int) int {
	n := int(in.One())
	if n > most {
		in.Fail(api.ErrLimit)
		return 0
	}
	return n
}

// End is what is wrong; also, if something is left.
func (in *In) End() api.Errno {
	if in.Bad() == api.OK && in.Left() > 0 {
		return api.ErrForm
	}
	return in.Bad()
}

// next takes so many bytes off, or none with an error. They are still the In's own memory: whoever hands them out copies them.
func (in *In) next(n int) []byte {
	if in == nil {
		return nil
	}
	if len(in.rest) < n {
		in.Fail(api.ErrShort)
		return nil
	}
	p := in.rest[:n]
	in.rest = in.rest[n:]
	return p
}

func number(p []byte) uint64 {
	var n uint64
	for _, b := range p {
		n = n<<8 | uint64(b)
	}
	return n
}
