package lamp_test

import (
	"bytes"
	"crypto/sha256"
	"encoding/hex"
	"math"
	"testing"

	"tollhouse/api"
	"tollhouse/lamp"
	"tollhouse/octet"
)

// sigSize is how many bytes a signature is laid as.
const sigSize = lamp.Bits * 32

// ramp are 32 bytes that count up from first.
func ramp(first byte) [32]byte {
	var p [32]byte
	for i := range p {
		p[i] = first + byte(i)
	}
	return p
}

// sumFor is the sum for a domain, by the library's SHA-256 and layer 3's words.
func sumFor(domain byte, l ...[]byte) api.Digest {
	p := []byte{domain, byte(len(l))}
	for _, part := range l {
		n := len(part)
		p = append(p, byte(n>>24), byte(n>>16), byte(n>>8), byte(n))
		p = append(p, part...)
	}
	return sha256.Sum256(p)
}

// secret, known, leaf, signature are the chapter's words, written out once more.
func secret(seed [32]byte, n uint32, place, value byte) lamp.Piece {
	d := sumFor(1, seed[:], []byte{byte(n >> 24), byte(n >> 16), byte(n >> 8), byte(n)}, []byte{place, value})
	return lamp.Piece(d[:16])
}

func known(p lamp.Piece) lamp.Piece {
	d := sumFor(5, p[:])
	return lamp.Piece(d[:16])
}

func leaf(seed [32]byte, n uint32) api.Digest {
	var text []byte
	for place := range byte(32) {
		zero, one := known(secret(seed, n, place, 0)), known(secret(seed, n, place, 1))
		text = append(append(text, zero[:]...), one[:]...)
	}
	return sumFor(2, text)
}

// bits are a digest's first 32, one by one.
func bits(d api.Digest) [32]byte {
	var l [32]byte
	word := uint32(d[0])<<24 | uint32(d[1])<<16 | uint32(d[2])<<8 | uint32(d[3])
	for place := range l {
		if word&(1<<31>>place) != 0 {
			l[place] = 1
		}
	}
	return l
}

func signature(seed [32]byte, n uint32, d api.Digest) lamp.Sig {
	var s lamp.Sig
	for place, bit := range bits(d) {
		s.Open[place] = secret(seed, n, byte(place), bit)
		s.Other[place] = known(secret(seed, n, byte(place), 1-bit))
	}
	return s
}

// laid is a signature as bytes.
func laid(s lamp.Sig) []byte {
	var p []byte
	for place := range 32 {
		p = append(p, s.Open[place][:]...)
		p = append(p, s.Other[place][:]...)
	}
	return p
}

// turn turns one bit of a digest, the highest one of each byte first.
func turn(d api.Digest, bit int) api.Digest {
	d[bit/8] ^= 0x80 >> (bit % 8)
	return d
}

type keyCase struct {
	seed [32]byte
	n    uint32
}

func keys() []keyCase {
	return []keyCase{
		{[32]byte{}, 0},
		{[32]byte{}, 1},
		{[32]byte{1}, 0},
		{[32]byte{31: 1}, 0},
		{ramp(0), 255},
		{ramp(0), 256},
		{ramp(0), 0x01020304},
		{ramp(100), 1 << 31},
		{ramp(250), math.MaxUint32},
	}
}

func digests() []api.Digest {
	return []api.Digest{
		{},
		{0x80},
		{1},
		{3: 1},
		{4: 0x80},
		{0x80, 0x01, 0xa5, 0x3c, 7},
		{255, 255, 255, 255},
		ramp(200),
		sha256.Sum256([]byte("a digest")),
	}
}

// P4.1: leaves that were worked out outside of this project.
func TestLeafWrittenOut(t *testing.T) {
	for _, c := range []struct {
		seed [32]byte
		n    uint32
		want string
	}{
		{[32]byte{}, 0, "2c02b7ec456d6d012db15aa6ef1dcd4f51d28dd6406219dc77d8d41e6b9a0949"},
		{[32]byte{}, 1, "3463124fc1ceed350697173684d4233f4cf588368f84872d4e7d818858073cd2"},
		{ramp(0), 0x01020304, "3e0913d7659e21a7ba6183557ba16d3be018274b07fe5a4dba537759123fcb6e"},
		{ramp(0), math.MaxUint32, "1f6436d7b74dc84044d3e764e2f9560b19eafbb2805747a7017aa7647d012928"},
	} {
		d := lamp.New(c.seed, c.n).Leaf()
		if got := hex.EncodeToString(d[:]); got != c.want {
			t.Errorf("P4.1: leaf of %d: %s, want %s", c.n, got, c.want)
		}
	}
}

// P4.1: what keys are known by.
func TestLeaf(t *testing.T) {
	for _, c := range keys() {
		if got, want := lamp.New(c.seed, c.n).Leaf(), leaf(c.seed, c.n); got != want {
			t.Errorf("P4.1: leaf of %x, %d: %x, want %x", c.seed, c.n, got, want)
		}
	}
}

// P4.1: signatures, piece by piece.
func TestSign(t *testing.T) {
	for _, c := range keys() {
		for _, d := range digests() {
			if lamp.New(c.seed, c.n).Sign(d) != signature(c.seed, c.n, d) {
				t.Errorf("P4.1: signature of %x by %x, %d", d, c.seed, c.n)
			}
		}
	}
}

// P4.1: signatures that were worked out outside of this project.
func TestSignWrittenOut(t *testing.T) {
	odd := api.Digest{0x80, 0x01, 0xa5, 0x3c}
	for i := 4; i < len(odd); i++ {
		odd[i] = 7
	}
	for _, c := range []struct {
		key  lamp.Key
		d    api.Digest
		want string
	}{
		{lamp.New([32]byte{}, 0), api.Digest{}, "835c0a2a11ee50b5f6ee1e4319f849f9a97d17e80ed95c7f978b3f045020911a"},
		{lamp.New(ramp(0), 0x01020304), odd, "87615ea79f2cc7d342b907a0b4587d46b6d9b333375d622780dedba6e57843a9"},
	} {
		got := sha256.Sum256(c.key.Sign(c.d).Lay(nil))
		if hex.EncodeToString(got[:]) != c.want {
			t.Errorf("P4.1, P4.3: sum of the signature of %x: %x, want %s", c.d, got, c.want)
		}
	}
}

// P4.1: each of the first 32 bits opens the other secret at its own place, and none behind them does.
func TestBits(t *testing.T) {
	k := lamp.New(ramp(3), 7)
	zero := k.Sign(api.Digest{})
	for bit := range 256 {
		s := k.Sign(turn(api.Digest{}, bit))
		for place := range lamp.Bits {
			turned := s.Open[place] != zero.Open[place] && s.Other[place] != zero.Other[place]
			same := s.Open[place] == zero.Open[place] && s.Other[place] == zero.Other[place]
			if place == bit && !turned || place != bit && !same {
				t.Errorf("P4.1: bit %d, place %d: turned %v, same %v", bit, place, turned, same)
			}
		}
	}
}

// P4.1, R5: a key is its seed and its number, whatever it signed already.
func TestKeyIsValue(t *testing.T) {
	seed := ramp(5)
	k := lamp.New(seed, 9)
	seed[0] = 99
	first := k.Sign(api.Digest{1})
	k.Sign(api.Digest{2})
	k.Leaf()
	if k.Sign(api.Digest{1}) != first || first != signature(ramp(5), 9, api.Digest{1}) || k.Leaf() != leaf(ramp(5), 9) {
		t.Error("R5: a key answers otherwise later on")
	}
	if k != lamp.New(ramp(5), 9) || (lamp.Key{}) != lamp.New([32]byte{}, 0) {
		t.Error("R5: keys of one seed and number are unlike")
	}
}

// P4.1: unlike numbers under one seed, and unlike seeds, make keys that share nothing.
func TestKeysApart(t *testing.T) {
	var list []lamp.Key
	for n := range uint32(300) {
		list = append(list, lamp.New(ramp(0), n))
	}
	for bit := range 32 {
		list = append(list, lamp.New(ramp(50), 1<<bit))
	}
	for bit := range 256 {
		list = append(list, lamp.New(turn(ramp(100), bit), 0))
	}
	leaves, pieces := map[api.Digest]int{}, map[lamp.Piece]int{}
	for _, k := range list {
		leaves[k.Leaf()]++
		zeros, ones := k.Sign(api.Digest{}), k.Sign(api.Digest{255, 255, 255, 255})
		for place := range lamp.Bits {
			pieces[zeros.Open[place]]++
			pieces[zeros.Other[place]]++
			pieces[ones.Open[place]]++
			pieces[ones.Other[place]]++
		}
	}
	if len(leaves) != len(list) || len(pieces) != len(list)*4*lamp.Bits {
		t.Errorf("P4.1: %d keys: %d leaves, %d pieces", len(list), len(leaves), len(pieces))
	}
}

// P4.2: what a signature leads to, whatever it is made of.
func TestFrom(t *testing.T) {
	odd := lamp.Sig{}
	for place := range lamp.Bits {
		odd.Open[place] = lamp.Piece{byte(place), 1}
		odd.Other[place] = lamp.Piece{15: byte(place)}
	}
	for i, s := range []lamp.Sig{{}, odd, lamp.New(ramp(1), 2).Sign(ramp(3))} {
		for _, d := range digests() {
			var text []byte
			for place, bit := range bits(d) {
				open, other := known(s.Open[place]), s.Other[place]
				if bit == 0 {
					text = append(append(text, open[:]...), other[:]...)
				} else {
					text = append(append(text, other[:]...), open[:]...)
				}
			}
			if got, want := s.From(d), sumFor(2, text); got != want {
				t.Errorf("P4.2: signature %d from %x: %x, want %x", i, d, got, want)
			}
		}
	}
}

// P4.3: a signature as bytes, behind what was laid.
func TestLay(t *testing.T) {
	s := lamp.New(ramp(1), 2).Sign(ramp(3))
	want := laid(s)
	if len(want) != sigSize {
		t.Fatalf("%d bytes", len(want))
	}
	for _, before := range []octet.Out{nil, {}, {7}, {1, 2, 3}, append(make(octet.Out, 0, 5000), 9, 8)} {
		begin := bytes.Clone(before)
		got := s.Lay(before)
		if !bytes.Equal(got, append(begin, want...)) {
			t.Errorf("P4.3: laid behind %x: %x", begin, []byte(got))
		}
	}
	if got := (lamp.Sig{}).Lay(nil); !bytes.Equal(got, make([]byte, sigSize)) {
		t.Errorf("P4.3: the zero signature: %x", []byte(got))
	}
	if got := s.Lay(octet.Out{1}).One(5); !bytes.Equal(got, append(append([]byte{1}, want...), 5)) {
		t.Errorf("P4.3: with more behind it: %x", []byte(got))
	}
}

// P4.3: what was laid is taken as it was, and what is behind it stays.
func TestTake(t *testing.T) {
	a, b := lamp.New(ramp(1), 2).Sign(ramp(3)), lamp.New(ramp(1), 3).Sign(ramp(4))
	in := octet.Of(b.Lay(a.Lay(octet.Out{}.Four(5))).One(6))
	if n := in.Four(); n != 5 {
		t.Fatalf("P4.3: ahead of it: %d", n)
	}
	if lamp.Take(in) != a || in.Left() != sigSize+1 || in.Bad() != api.OK {
		t.Errorf("P4.3: the first one: left %d, bad %d", in.Left(), in.Bad())
	}
	if lamp.Take(in) != b || in.Left() != 1 || in.Bad() != api.OK {
		t.Errorf("P4.3: the second one: left %d, bad %d", in.Left(), in.Bad())
	}
	if n := in.One(); n != 6 || in.End() != api.OK {
		t.Errorf("P4.3: behind them: %d, end %d", n, in.End())
	}
}

// P4.3: bytes that end anywhere: whole places are taken, the others are zero.
func TestTakeShort(t *testing.T) {
	full := lamp.New(ramp(1), 2).Sign(ramp(3))
	p := laid(full)
	for n := range sigSize {
		var want lamp.Sig
		for place := range n / 32 {
			want.Open[place], want.Other[place] = full.Open[place], full.Other[place]
		}
		in := octet.Of(p[:n])
		if lamp.Take(in) != want {
			t.Errorf("P4.3: of %d bytes: another signature", n)
		}
		if in.Bad() != api.ErrShort || in.Left() != 0 || in.End() != api.ErrShort {
			t.Errorf("P4.3: of %d bytes: bad %d, left %d, end %d", n, in.Bad(), in.Left(), in.End())
		}
	}
}

// P4.3: of a nil In, and of one with which something was wrong before, the signature is zero.
func TestTakeBad(t *testing.T) {
	if lamp.Take(nil) != (lamp.Sig{}) {
		t.Error("P4.3: of a nil In something is taken")
	}
	in := octet.Of(laid(lamp.New(ramp(1), 2).Sign(ramp(3))))
	in.Fail(api.ErrRound)
	if lamp.Take(in) != (lamp.Sig{}) || in.Bad() != api.ErrRound || in.Left() != 0 {
		t.Errorf("P4.3: of a bad In something is taken, or bad is %d", in.Bad())
	}
	lamp.Take(&octet.In{})
}

// P4.4: a signature leads to its key.
func TestFromIsLeaf(t *testing.T) {
	for _, c := range keys() {
		k := lamp.New(c.seed, c.n)
		for _, d := range digests() {
			if k.Sign(d).From(d) != k.Leaf() {
				t.Errorf("P4.4: the signature of %x by %x, %d doesn't lead to its key", d, c.seed, c.n)
			}
		}
	}
}

// P4.4: one of the first 32 bits leads elsewhere, a bit behind them doesn't.
func TestFromOtherDigest(t *testing.T) {
	k := lamp.New(ramp(9), 4)
	for _, d := range digests() {
		s := k.Sign(d)
		for bit := range 256 {
			other := turn(d, bit)
			if behind := bit >= lamp.Bits; (s.From(other) == k.Leaf()) != behind || (k.Sign(other) == s) != behind {
				t.Errorf("P4.4: digest %x, bit %d turned", d, bit)
			}
		}
	}
}

// P4.4: a signature that was turned anywhere leads elsewhere.
func TestFromTurned(t *testing.T) {
	k, d := lamp.New(ramp(9), 4), api.Digest{0x5a, 0xc3, 0x0f, 0x99}
	s := k.Sign(d)
	for place := range lamp.Bits {
		for at := range 16 {
			for _, mask := range []byte{1, 0x10, 0x80, 0xff} {
				open, other := s, s
				open.Open[place][at] ^= mask
				other.Other[place][at] ^= mask
				if open.From(d) == k.Leaf() || other.From(d) == k.Leaf() {
					t.Errorf("P4.4: place %d, byte %d, turned by %x leads to the key", place, at, mask)
				}
			}
		}
		swapped := s
		swapped.Open[place], swapped.Other[place] = s.Other[place], s.Open[place]
		moved := s
		next := (place + 1) % lamp.Bits
		moved.Open[place], moved.Open[next] = s.Open[next], s.Open[place]
		if swapped.From(d) == k.Leaf() || moved.From(d) == k.Leaf() {
			t.Errorf("P4.4: place %d, pieces swapped, leads to the key", place)
		}
	}
	if (lamp.Sig{}).From(d) == k.Leaf() || lamp.New(ramp(9), 5).Sign(d).From(d) == k.Leaf() || lamp.New(ramp(8), 4).Sign(d).From(d) == k.Leaf() {
		t.Error("P4.4: another one's signature leads to the key")
	}
}

// P4.4: who has two signatures of unlike bits can't have been shown what neither opened.
func TestOtherIsNotOpen(t *testing.T) {
	k := lamp.New(ramp(9), 4)
	zeros, ones := k.Sign(api.Digest{}), k.Sign(api.Digest{255, 255, 255, 255})
	for place := range lamp.Bits {
		if known(zeros.Open[place]) != ones.Other[place] || known(ones.Open[place]) != zeros.Other[place] {
			t.Errorf("P4.1: place %d: Other isn't what the other secret is known by", place)
		}
		if zeros.Open[place] == zeros.Other[place] || zeros.Open[place] == ones.Open[place] || zeros.Open[place] == ones.Other[place] {
			t.Errorf("P4.4: place %d: a secret is shown that wasn't opened", place)
		}
	}
}
