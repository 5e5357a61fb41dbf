package ring_test

import (
	"bytes"
	"crypto/sha256"
	"encoding/hex"
	"math"
	"slices"
	"testing"

	"tollhouse/api"
	"tollhouse/lamp"
	"tollhouse/octet"
	"tollhouse/ring"
)

// headSize and lampSize are how many bytes stand ahead of the Way: the key with how many sums there are, and layer 4's signature.
const (
	headSize = 5
	lampSize = lamp.Bits * 32
	sumSize  = 32
)

// ramp are 32 bytes that count up from first.
func ramp(first byte) [32]byte {
	var p [32]byte
	for i := range p {
		p[i] = first + byte(i)
	}
	return p
}

// join is what stands above two sums, by the library's SHA-256 and layer 3's words.
func join(even, odd api.Digest) api.Digest {
	p := []byte{3, 2, 0, 0, 0, 32}
	p = append(p, even[:]...)
	p = append(p, 0, 0, 0, 32)
	return sha256.Sum256(append(p, odd[:]...))
}

// rows are a ring's, from the leaves up to the root.
func rows(seed [32]byte, tall int) [][]api.Digest {
	var row []api.Digest
	for n := range uint32(1) << tall {
		row = append(row, lamp.New(seed, n).Leaf())
	}
	all := [][]api.Digest{row}
	for len(row) > 1 {
		var half []api.Digest
		for at := 0; at < len(row); at += 2 {
			half = append(half, join(row[at], row[at+1]))
		}
		all, row = append(all, half), half
	}
	return all
}

// way is what stands beside the way up from a key.
func way(all [][]api.Digest, key uint32) []api.Digest {
	var l []api.Digest
	at := int(key)
	for _, row := range all[:len(all)-1] {
		if at%2 == 0 {
			l = append(l, row[at+1])
		} else {
			l = append(l, row[at-1])
		}
		at /= 2
	}
	return l
}

// climb is what a leaf and a Way come to, each sum on its side.
func climb(leaf api.Digest, way []api.Digest, key uint32) api.Digest {
	for _, d := range way {
		if key%2 == 0 {
			leaf = join(leaf, d)
		} else {
			leaf = join(d, leaf)
		}
		key /= 2
	}
	return leaf
}

func ringOf(t *testing.T, seed [32]byte, tall int) *ring.Ring {
	t.Helper()
	r, e := ring.New(seed, tall)
	if e != api.OK || r == nil {
		t.Fatalf("P5.1: height %d: %d", tall, e)
	}
	return r
}

func sign(t *testing.T, r *ring.Ring, key uint32, d api.Digest) ring.Sig {
	t.Helper()
	s, e := r.Sign(key, d)
	if e != api.OK {
		t.Fatalf("P5.2: Sign by %d: %d", key, e)
	}
	return s
}

func same(a, b ring.Sig) bool {
	return a.Sig == b.Sig && a.Key == b.Key && slices.Equal(a.Way, b.Way)
}

func isZero(s ring.Sig) bool { return same(s, ring.Sig{}) }

// twin is a signature with a Way of its own.
func twin(s ring.Sig) ring.Sig {
	s.Way = slices.Clone(s.Way)
	return s
}

// taken are the keys that are, of the first ones and one more.
func taken(r *ring.Ring) []uint32 {
	var l []uint32
	for key := range uint32(api.MaxKeys + 1) {
		if r.Taken(key) {
			l = append(l, key)
		}
	}
	return l
}

// tooGreat are keys that a ring of a height doesn't have.
func tooGreat(tall int) []uint32 {
	many := uint32(1) << tall
	return []uint32{many, many + 1, 2 * many, 256, 257, 1 << 16, 1<<16 + many, 1 << 31, math.MaxUint32}
}

// P5.1: roots that were worked out outside of this project.
func TestRootWrittenOut(t *testing.T) {
	for _, c := range []struct {
		seed [32]byte
		tall int
		want string
	}{
		{[32]byte{}, 0, "2c02b7ec456d6d012db15aa6ef1dcd4f51d28dd6406219dc77d8d41e6b9a0949"},
		{[32]byte{}, 1, "0b5e2f0f4e7b053a91e29735d19d790c0eee9da54f32c0b827096bb35baae14d"},
		{ramp(0), 2, "602031b7ab34f76ecde3e32666e44f5f256084fdfb768ac31f3e56f1e7699fb1"},
		{ramp(0), 3, "3bf9e8b0b4256362aa3890b524899ef3769e73fd687ac509d113f6d87a60cdbe"},
		{ramp(0), 8, "33003bb5a6e1c66268e84279ab4964396953714cb298d25dc60e75d5d90602f2"},
	} {
		root := ringOf(t, c.seed, c.tall).Root()
		if got := hex.EncodeToString(root[:]); got != c.want {
			t.Errorf("P5.1: root of the height %d: %s, want %s", c.tall, got, c.want)
		}
	}
}

// P5.1: rings of each height there is: root, height, and no key that is taken.
func TestNew(t *testing.T) {
	for tall := range 9 {
		r := ringOf(t, ramp(7), tall)
		all := rows(ramp(7), tall)
		if r.Root() != all[tall][0] || r.Tall() != tall {
			t.Errorf("P5.1: height %d: root %x, height %d; want %x", tall, r.Root(), r.Tall(), all[tall][0])
		}
		if l := taken(r); len(l) != 0 {
			t.Errorf("P5.1: height %d: keys are taken: %v", tall, l)
		}
	}
}

// P5.1: example 1.
func TestHeightZero(t *testing.T) {
	r := ringOf(t, ramp(7), 0)
	if r.Root() != lamp.New(ramp(7), 0).Leaf() || r.Tall() != 0 {
		t.Errorf("P5.1: height 0: root %x, height %d", r.Root(), r.Tall())
	}
	s := sign(t, r, 0, ramp(1))
	if len(s.Way) != 0 || !s.Right(r.Root(), 0, 0, ramp(1)) {
		t.Errorf("P5.2: height 0: a Way of %d", len(s.Way))
	}
	if _, e := r.Sign(1, ramp(1)); e != api.ErrArg {
		t.Errorf("P5.2: height 0, key 1: %d", e)
	}
}

// P5.1: heights below 0, and of more than MaxKeys keys, those too where two to them goes round.
func TestNewWrong(t *testing.T) {
	for _, tall := range []int{-1, -2, -8, -64, math.MinInt, 9, 10, 31, 32, 33, 62, 63, 64, 65, 256, 264, 1 << 32, 1<<32 + 1, math.MaxInt} {
		if r, e := ring.New(ramp(7), tall); r != nil || e != api.ErrArg {
			t.Errorf("P5.1: height %d: %v, %d", tall, r != nil, e)
		}
	}
}

// P5.1: unlike seeds and unlike heights have unlike roots; one seed and height has one.
func TestRootsApart(t *testing.T) {
	roots := map[api.Digest]int{}
	for tall := range 4 {
		for i := range 32 {
			seed := [32]byte{}
			seed[i] = 1
			r := ringOf(t, seed, tall)
			roots[r.Root()]++
			if ringOf(t, seed, tall).Root() != r.Root() {
				t.Errorf("R5: seed %d, height %d: two roots", i, tall)
			}
		}
	}
	if len(roots) != 4*32 {
		t.Errorf("P5.1: %d roots, want %d", len(roots), 4*32)
	}
}

// P5.1, P5.2, R1: a nil ring, and one that New didn't make.
func TestNilRing(t *testing.T) {
	var r *ring.Ring
	if r.Root() != (api.Digest{}) || r.Tall() != 0 || r.Taken(0) || r.Taken(math.MaxUint32) {
		t.Error("P5.1: of a nil ring something is not zero")
	}
	for _, key := range []uint32{0, 1, 256, math.MaxUint32} {
		s, e := r.Sign(key, ramp(1))
		a, f := r.Again(key, ramp(1))
		if e != api.ErrNil || f != api.ErrNil || r.Spend(key) != api.ErrNil || !isZero(s) || !isZero(a) {
			t.Errorf("P5.2: nil, key %d: %d, %d, %d", key, e, f, r.Spend(key))
		}
	}
	for _, key := range []uint32{0, 1, 255, 256, math.MaxUint32} {
		var foreign ring.Ring
		foreign.Root()
		foreign.Tall()
		foreign.Taken(key)
		foreign.Again(key, ramp(1))
		foreign.Sign(key, ramp(1))
		foreign.Again(key, ramp(1))
		foreign.Spend(key)
	}
}

// P5.2: signatures, part by part, of every key of some heights.
func TestSign(t *testing.T) {
	for _, tall := range []int{0, 1, 2, 3, 5, 8} {
		r, all := ringOf(t, ramp(7), tall), rows(ramp(7), tall)
		for key := range uint32(1) << tall {
			d := api.Digest(sha256.Sum256([]byte{byte(key), byte(tall)}))
			want := ring.Sig{Sig: lamp.New(ramp(7), key).Sign(d), Key: key, Way: way(all, key)}
			if s := sign(t, r, key, d); !same(s, want) || len(s.Way) != tall {
				t.Errorf("P5.2: height %d, key %d: another signature", tall, key)
			}
			if a, e := r.Again(key, d); e != api.OK || !same(a, want) {
				t.Errorf("P5.2: height %d, key %d: Again: %d, or another signature", tall, key, e)
			}
		}
	}
}

// P5.2: keys that there aren't, whatever was done to the others.
func TestNoSuchKey(t *testing.T) {
	for tall := range 9 {
		r := ringOf(t, ramp(7), tall)
		for range 2 {
			before := taken(r)
			for _, key := range tooGreat(tall) {
				if key>>tall == 0 {
					continue
				}
				s, e := r.Sign(key, ramp(1))
				a, f := r.Again(key, ramp(1))
				g := r.Spend(key)
				if e != api.ErrArg || f != api.ErrArg || g != api.ErrArg || !isZero(s) || !isZero(a) || r.Taken(key) {
					t.Errorf("P5.2: height %d, key %d: %d, %d, %d, taken %v", tall, key, e, f, g, r.Taken(key))
				}
			}
			if after := taken(r); !slices.Equal(before, after) {
				t.Errorf("R2: height %d: %v are taken, were %v", tall, after, before)
			}
			for key := range uint32(1) << tall {
				r.Spend(key)
			}
		}
	}
}

// P5.2: the lowest and the highest key of each height.
func TestEndKeys(t *testing.T) {
	for tall := range 9 {
		r := ringOf(t, ramp(7), tall)
		last := uint32(1)<<tall - 1
		want := []uint32{0}
		if last > 0 {
			want = append(want, last)
		}
		for _, key := range want {
			s := sign(t, r, key, ramp(1))
			if !s.Right(r.Root(), tall, key, ramp(1)) {
				t.Errorf("P5.4: height %d, key %d isn't right", tall, key)
			}
		}
		if got := taken(r); !slices.Equal(got, want) {
			t.Errorf("P5.2: height %d: %v are taken, want %v", tall, got, want)
		}
	}
}

// P5.2: one key, signed with, signed with again and spent in each order of four steps; the others aren't touched.
func TestOrders(t *testing.T) {
	r0 := ringOf(t, ramp(7), 2)
	all := rows(ramp(7), 2)
	for order := range 81 {
		r := *r0
		steps := order
		is := false
		for at := range 4 {
			step := steps % 3
			steps /= 3
			d := api.Digest{byte(at), byte(order)}
			var s ring.Sig
			var e, want api.Errno
			switch step {
			case 0:
				s, e = r.Sign(2, d)
				if is {
					want = api.ErrSpent
				}
				is = true
			case 1:
				s, e = r.Again(2, d)
				if !is {
					want = api.ErrNone
				}
			case 2:
				e = r.Spend(2)
				is = true
			}
			right := ring.Sig{}
			if step != 2 && want == api.OK {
				right = ring.Sig{Sig: lamp.New(ramp(7), 2).Sign(d), Key: 2, Way: way(all, 2)}
			}
			if e != want || !same(s, right) || r.Taken(2) != is {
				t.Errorf("P5.2: order %d, step %d: %d, want %d; taken %v, want %v", order, at, e, want, r.Taken(2), is)
			}
			if l := taken(&r); len(l) > 1 || is && l[0] != 2 {
				t.Errorf("P5.2: order %d, step %d: taken: %v", order, at, l)
			}
		}
	}
	if l := taken(r0); len(l) != 0 {
		t.Errorf("R5: the ring that was copied: taken: %v", l)
	}
}

// P5.2: signing turns neither the root nor other keys; two rings of one seed have nothing to do with each other.
func TestApart(t *testing.T) {
	a, b := ringOf(t, ramp(7), 3), ringOf(t, ramp(7), 3)
	root := a.Root()
	for _, key := range []uint32{5, 0, 7} {
		sign(t, a, key, ramp(1))
	}
	a.Spend(2)
	if l := taken(a); !slices.Equal(l, []uint32{0, 2, 5, 7}) {
		t.Errorf("P5.2: taken: %v", l)
	}
	if l := taken(b); len(l) != 0 {
		t.Errorf("R5: the other ring: taken: %v", l)
	}
	if a.Root() != root || b.Root() != root || a.Tall() != 3 {
		t.Error("P5.1: the root or the height turned")
	}
	if !same(sign(t, b, 3, ramp(4)), sign(t, a, 3, ramp(4))) {
		t.Error("R5: a signature hangs on those before it")
	}
}

// P5.3: right for what was signed, and for nothing beside it.
func TestRight(t *testing.T) {
	d := api.Digest{0x5a, 0xc3, 0x0f, 0x99}
	for _, tall := range []int{1, 2, 3, 8} {
		for _, key := range []uint32{0, 1, uint32(1)<<tall - 1, uint32(1) << tall / 2} {
			r := ringOf(t, ramp(7), tall)
			s := sign(t, r, key, d)
			root := r.Root()
			if !s.Right(root, tall, key, d) {
				t.Fatalf("P5.3: height %d, key %d isn't right", tall, key)
			}
			for _, other := range []int{tall - 1, tall + 1, 0, -1, -tall, 9, 63, 64, math.MinInt, math.MaxInt} {
				if other != tall && s.Right(root, other, key, d) {
					t.Errorf("P5.3: height %d, key %d: right for the height %d", tall, key, other)
				}
			}
			for other := range uint32(1) << tall * 2 {
				moved := s
				moved.Key = other
				if other != key && (s.Right(root, tall, other, d) || moved.Right(root, tall, key, d) || moved.Right(root, tall, other, d)) {
					t.Errorf("P5.3: height %d, key %d: right for the key %d", tall, key, other)
				}
			}
		}
	}
}

// P5.3: keys beyond the height that share its lowest bits are not right, though their way is the same.
func TestRightKeyTooGreat(t *testing.T) {
	for _, tall := range []int{0, 1, 3, 8} {
		r := ringOf(t, ramp(7), tall)
		s := sign(t, r, 0, ramp(1))
		for bit := tall; bit < 32; bit++ {
			far := s
			far.Key = 1 << bit
			if far.Right(r.Root(), tall, far.Key, ramp(1)) {
				t.Errorf("P5.3: height %d: right for the key 2^%d", tall, bit)
			}
		}
	}
}

// P5.3: roots, digests and Ways that were turned.
func TestRightTurned(t *testing.T) {
	d := api.Digest{0x5a, 0xc3, 0x0f, 0x99}
	r := ringOf(t, ramp(7), 3)
	s := sign(t, r, 5, d)
	for at := range 32 {
		root := r.Root()
		root[at] ^= 1
		if s.Right(root, 3, 5, d) {
			t.Errorf("P5.3: right for a root turned at %d", at)
		}
		for row := range 3 {
			turned := twin(s)
			turned.Way[row][at] ^= 0x80
			if turned.Right(r.Root(), 3, 5, d) {
				t.Errorf("P5.3: right with a Way turned at %d, %d", row, at)
			}
		}
	}
	for bit := range 256 {
		other := d
		other[bit/8] ^= 0x80 >> (bit % 8)
		if s.Right(r.Root(), 3, 5, other) != (bit >= lamp.Bits) {
			t.Errorf("P5.3: a digest turned at bit %d", bit)
		}
	}
	for place := range lamp.Bits {
		open, other := twin(s), twin(s)
		open.Open[place][place%16] ^= 1
		other.Other[place][place%16] ^= 1
		if open.Right(r.Root(), 3, 5, d) || other.Right(r.Root(), 3, 5, d) {
			t.Errorf("P5.3: right with a piece turned at %d", place)
		}
	}
	swapped := twin(s)
	swapped.Way[0], swapped.Way[1] = s.Way[1], s.Way[0]
	if swapped.Right(r.Root(), 3, 5, d) || (ring.Sig{}).Right(r.Root(), 0, 0, d) || (ring.Sig{}).Right(api.Digest{}, 0, 0, d) {
		t.Error("P5.3: right with a Way out of order, or with nothing")
	}
}

// P5.3: a Way of another height is not right: neither a beginning of the way up, nor more than it.
func TestRightOtherWay(t *testing.T) {
	d := ramp(9)
	r := ringOf(t, ramp(7), 3)
	s := sign(t, r, 1, d)
	leaf := lamp.New(ramp(7), 1).Leaf()
	for n := range 4 {
		short := twin(s)
		short.Way = short.Way[:n]
		inner := climb(leaf, short.Way, 1)
		if short.Right(r.Root(), 3, 1, d) != (n == 3) || short.Right(r.Root(), n, 1, d) != (n == 3) {
			t.Errorf("P5.3: a Way of %d for the root", n)
		}
		// What such a Way comes to is a root, too: of a lower ring, if it has that key.
		if short.Right(inner, n, 1, d) != (n >= 1) || n != 3 && short.Right(inner, 3, 1, d) {
			t.Errorf("P5.3: a Way of %d for what it comes to", n)
		}
	}
	for _, extra := range []api.Digest{{}, s.Way[2], r.Root()} {
		long := twin(s)
		long.Way = append(long.Way, extra)
		if long.Right(r.Root(), 3, 1, d) || long.Right(r.Root(), 4, 1, d) || !long.Right(join(r.Root(), extra), 4, 1, d) {
			t.Error("P5.3: a Way of one more")
		}
	}
}

// P5.3: what is right is told for Ways of any length, beyond those of rings and of a key's bits.
func TestRightLongWay(t *testing.T) {
	d := ramp(9)
	for _, tall := range []int{8, 9, 31, 32, 33, 63, 64, 65, 300} {
		for _, key := range []uint32{0, 1, 255, 511, 1 << 30, 1 << 31, math.MaxUint32} {
			s := ring.Sig{Sig: lamp.New(ramp(7), key).Sign(d), Key: key}
			for row := range tall {
				s.Way = append(s.Way, ramp(byte(row)))
			}
			root := climb(lamp.New(ramp(7), key).Leaf(), s.Way, key)
			within := tall >= 32 || uint64(key) < 1<<tall
			if s.Right(root, tall, key, d) != within {
				t.Errorf("P5.3: a Way of %d, key %d: right %v", tall, key, !within)
			}
			if s.Right(root, tall+1, key, d) || s.Right(root, tall-1, key, d) || s.Right(root, -tall, key, d) {
				t.Errorf("P5.3: a Way of %d, key %d: right for another height", tall, key)
			}
		}
	}
}

// laid is a signature as bytes.
func laid(s ring.Sig) []byte {
	k := s.Key
	p := []byte{byte(k >> 24), byte(k >> 16), byte(k >> 8), byte(k), byte(len(s.Way))}
	for place := range lamp.Bits {
		p = append(p, s.Open[place][:]...)
		p = append(p, s.Other[place][:]...)
	}
	for _, d := range s.Way {
		p = append(p, d[:]...)
	}
	return p
}

// some is a signature with a Way of so many sums.
func some(key uint32, many int) ring.Sig {
	s := ring.Sig{Sig: lamp.New(ramp(7), key).Sign(ramp(byte(key))), Key: key}
	for row := range many {
		s.Way = append(s.Way, ramp(byte(100+row)))
	}
	return s
}

// P5.3: a signature as bytes, behind what was laid.
func TestLay(t *testing.T) {
	for _, many := range []int{0, 1, 8, 9, 255} {
		s := some(0x01020304, many)
		want := laid(s)
		if len(want) != headSize+lampSize+many*sumSize {
			t.Fatalf("%d bytes", len(want))
		}
		for _, before := range []octet.Out{nil, {}, {7}, append(make(octet.Out, 0, 20000), 9, 8)} {
			begin := bytes.Clone(before)
			if got := s.Lay(before); !bytes.Equal(got, append(begin, want...)) {
				t.Errorf("P5.3: a Way of %d, laid behind %x: %x", many, begin, []byte(got))
			}
		}
	}
	if got := (ring.Sig{}).Lay(nil); !bytes.Equal(got, make([]byte, headSize+lampSize)) {
		t.Errorf("P5.3: the zero signature: %x", []byte(got))
	}
	// Of a number that one byte doesn't hold there is the lowest one.
	if got := some(1, 256).Lay(nil); !bytes.Equal(got, laid(some(1, 256))) {
		t.Errorf("P5.3: a Way of 256: %d bytes, how many: %d", len(got), got[4])
	}
}

// P5.3: what was laid is taken as it was, and what is behind it stays.
func TestTake(t *testing.T) {
	for many := range 9 {
		a, b := some(uint32(many), many), some(math.MaxUint32, 8-many)
		in := octet.Of(b.Lay(a.Lay(octet.Out{}.One(5))).One(6))
		in.One()
		if got := ring.Take(in); !same(got, a) || in.Left() != len(laid(b))+1 || in.Bad() != api.OK {
			t.Errorf("P5.3: a Way of %d: left %d, bad %d", many, in.Left(), in.Bad())
		}
		if got := ring.Take(in); !same(got, b) || in.Left() != 1 || in.Bad() != api.OK {
			t.Errorf("P5.3: a Way of %d, behind another: left %d, bad %d", 8-many, in.Left(), in.Bad())
		}
		if n := in.One(); n != 6 || in.End() != api.OK {
			t.Errorf("P5.3: behind them: %d, end %d", n, in.End())
		}
	}
}

// P5.3: signatures of rings, laid and taken, are still right.
func TestTakeRight(t *testing.T) {
	for tall := range 9 {
		r := ringOf(t, ramp(7), tall)
		key := uint32(1)<<tall - 1
		in := octet.Of(sign(t, r, key, ramp(1)).Lay(nil))
		s := ring.Take(in)
		if in.End() != api.OK || !s.Right(r.Root(), tall, key, ramp(1)) {
			t.Errorf("P5.3: height %d: end %d, or not right", tall, in.End())
		}
	}
}

// P5.3: a Way of more than 8: ErrLimit, whatever is left behind.
func TestTakeLimit(t *testing.T) {
	for _, many := range []int{9, 10, 16, 128, 255} {
		full := laid(some(3, many))
		for _, p := range [][]byte{full, append(slices.Clone(full), 1, 2, 3), full[:headSize], full[:headSize+1], full[:headSize+lampSize], full[:len(full)-1]} {
			in := octet.Of(p)
			if s := ring.Take(in); !isZero(s) || in.Bad() != api.ErrLimit || in.Left() != 0 || in.End() != api.ErrLimit {
				t.Errorf("P5.3: a Way of %d in %d bytes: bad %d, left %d, or not zero", many, len(p), in.Bad(), in.Left())
			}
		}
	}
}

// P5.3: bytes that end anywhere: ErrShort, and all of the signature is zero.
func TestTakeShort(t *testing.T) {
	for _, many := range []int{0, 1, 8} {
		full := laid(some(0x01020304, many))
		for n := range len(full) {
			in := octet.Of(full[:n])
			if s := ring.Take(in); !isZero(s) || in.Bad() != api.ErrShort || in.Left() != 0 || in.End() != api.ErrShort {
				t.Errorf("P5.3: a Way of %d, cut at %d: bad %d, left %d, or not zero", many, n, in.Bad(), in.Left())
			}
		}
	}
}

// P5.3: of a nil In, and of one with which something was wrong before, the signature is zero.
func TestTakeBad(t *testing.T) {
	if s := ring.Take(nil); !isZero(s) {
		t.Error("P5.3: of a nil In something is taken")
	}
	in := octet.Of(laid(some(3, 2)))
	in.Fail(api.ErrRound)
	if s := ring.Take(in); !isZero(s) || in.Bad() != api.ErrRound || in.Left() != 0 {
		t.Errorf("P5.3: of a bad In something is taken, or bad is %d", in.Bad())
	}
	ring.Take(&octet.In{})
}

// P5.3, R3: what is laid is neither changed nor kept, nor is the room behind the Way, wherever it lies.
func TestLayKeepsNothing(t *testing.T) {
	s := some(3, 4)
	room := slices.Clone(s.Way)
	s.Way = room[:2]
	want := laid(s)
	o := s.Lay(make(octet.Out, 0, 20000))
	if !slices.Equal(room, some(3, 4).Way) {
		t.Error("R3: the Way or the room behind it was changed")
	}
	clear(room)
	if !bytes.Equal(o, want) {
		t.Error("R3: the Way was kept")
	}
	s = some(3, 4)
	want = laid(s)
	if o := s.Lay(s.Way[0][:0]); !bytes.Equal(o, want) {
		t.Error("P5.3: a Way in the room behind an Out isn't laid as it was")
	}
}

// R3: a signature's Way is new memory, its spare room too.
func TestNewMemory(t *testing.T) {
	r := ringOf(t, ramp(7), 3)
	want := twin(sign(t, r, 4, ramp(1)))
	for range 2 {
		s, _ := r.Again(4, ramp(1))
		if !same(s, want) {
			t.Fatal("R3: a ring's rows were changed by a signature's Way")
		}
		clear(s.Way[:cap(s.Way)])
	}
	a := sign(t, r, 5, ramp(1))
	clear(a.Way)
	if s := sign(t, r, 6, ramp(1)); !s.Right(r.Root(), 3, 6, ramp(1)) || r.Root() != rows(ramp(7), 3)[3][0] {
		t.Error("R3: a ring's rows were changed by a signature's Way")
	}
	p := laid(want)
	in := octet.Of(append(slices.Clone(p), p...))
	first := ring.Take(in)
	clear(first.Way[:cap(first.Way)])
	if second := ring.Take(in); !same(second, want) {
		t.Error("R3: two signatures that were taken share their memory")
	}
}

// P5.4: whatever is signed is right for its root, height and key; and its own calls are layer 4's.
func TestSignedIsRight(t *testing.T) {
	for _, tall := range []int{0, 1, 2, 4, 8} {
		r := ringOf(t, ramp(60), tall)
		for key := range uint32(1) << tall {
			d := api.Digest(sha256.Sum256([]byte{byte(key), 1}))
			s := sign(t, r, key, d)
			again, e := r.Again(key, ramp(byte(key)))
			if !s.Right(r.Root(), tall, key, d) || e != api.OK || !again.Right(r.Root(), tall, key, ramp(byte(key))) {
				t.Errorf("P5.4: height %d, key %d isn't right", tall, key)
			}
			if s.From(d) != lamp.New(ramp(60), key).Leaf() {
				t.Errorf("P5.4: height %d, key %d: From isn't layer 4's", tall, key)
			}
		}
		for key := range uint32(1) << tall {
			if s, e := r.Sign(key, api.Digest{}); e != api.ErrSpent || !isZero(s) {
				t.Errorf("P5.4: height %d, key %d signs twice: %d", tall, key, e)
			}
		}
	}
}

// P5.4: no key's signature is right for another key or another ring.
func TestOthersAreNotRight(t *testing.T) {
	d := ramp(9)
	r, other := ringOf(t, ramp(7), 3), ringOf(t, ramp(8), 3)
	var list []ring.Sig
	for key := range uint32(8) {
		list = append(list, sign(t, r, key, d))
	}
	for _, s := range list {
		for key, own := range list {
			forged := own
			forged.Sig = s.Sig
			if right := s.Key == uint32(key); s.Right(r.Root(), 3, uint32(key), d) != right || forged.Right(r.Root(), 3, uint32(key), d) != right {
				t.Errorf("P5.4: the signature of %d for the key %d", s.Key, key)
			}
		}
		if s.Right(other.Root(), 3, s.Key, d) {
			t.Errorf("P5.4: the signature of %d is right for another ring", s.Key)
		}
	}
}
