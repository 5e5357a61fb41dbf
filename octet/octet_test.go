package octet_test

import (
	"bytes"
	"math"
	"testing"

	"tollhouse/api"
	"tollhouse/octet"
)

// ramp is a sum whose bytes count up from first.
func ramp(first byte) api.Digest {
	var d api.Digest
	for i := range d {
		d[i] = first + byte(i)
	}
	return d
}

func rampBytes(first byte) []byte {
	d := ramp(first)
	return d[:]
}

func join(l ...[]byte) []byte { return bytes.Join(l, nil) }

// wantBad: what is wrong, and that nothing is left and nothing more can be taken.
func wantBad(t *testing.T, name string, in *octet.In, want api.Errno) {
	t.Helper()
	if in.Bad() != want || in.Left() != 0 || in.End() != want {
		t.Errorf("%s: bad %d, left %d, end %d; want %d, 0, %d", name, in.Bad(), in.Left(), in.End(), want, want)
	}
	takeNothing(t, name, in)
	if in.Bad() != want || in.Left() != 0 || in.End() != want {
		t.Errorf("%s: later on: bad %d, left %d, end %d; want %d, 0, %d", name, in.Bad(), in.Left(), in.End(), want, want)
	}
}

func takeNothing(t *testing.T, name string, in *octet.In) {
	t.Helper()
	if in.One() != 0 || in.Four() != 0 || in.Eight() != 0 || in.Sum() != (api.Digest{}) {
		t.Errorf("%s: a number or a sum was taken", name)
	}
	for _, most := range []int{-1, 0, 1, api.MaxBlob} {
		if len(in.Blob(most)) != 0 || in.Many(most) != 0 {
			t.Errorf("%s: a blob or how many was taken, at most %d", name, most)
		}
	}
}

// wantLeft: nothing is wrong, and so many bytes are left.
func wantLeft(t *testing.T, name string, in *octet.In, left int) {
	t.Helper()
	end := api.OK
	if left > 0 {
		end = api.ErrForm
	}
	if in.Bad() != api.OK || in.Left() != left || in.End() != end {
		t.Errorf("%s: bad %d, left %d, end %d; want 0, %d, %d", name, in.Bad(), in.Left(), in.End(), left, end)
	}
}

// P1.1.
func TestLay(t *testing.T) {
	long := bytes.Repeat([]byte{7}, api.MaxBlob+1)
	for _, c := range []struct {
		name string
		got  octet.Out
		want []byte
	}{
		{"the example", octet.Out{}.Four(258).Blob([]byte("a")), []byte{0, 0, 1, 2, 0, 0, 0, 1, 'a'}},
		{"one", octet.Out{}.One(0, 1, 128, 255), []byte{0, 1, 128, 255}},
		{"four", octet.Out{}.Four(0x01020304, 0, math.MaxUint32), []byte{1, 2, 3, 4, 0, 0, 0, 0, 255, 255, 255, 255}},
		{"four, the highest bit", octet.Out{}.Four(1 << 31), []byte{128, 0, 0, 0}},
		{"eight", octet.Out{}.Eight(0x0102030405060708, math.MaxUint64), []byte{1, 2, 3, 4, 5, 6, 7, 8, 255, 255, 255, 255, 255, 255, 255, 255}},
		{"eight, its halves", octet.Out{}.Eight(1<<63, 1<<32, 1<<31), []byte{128, 0, 0, 0, 0, 0, 0, 0, 0, 0, 0, 1, 0, 0, 0, 0, 0, 0, 0, 0, 128, 0, 0, 0}},
		{"sums", octet.Out{}.Sum(ramp(1), ramp(100)), join(rampBytes(1), rampBytes(100))},
		{"blobs", octet.Out{}.Blob([]byte("ab"), nil, []byte{}, []byte("c")), []byte{0, 0, 0, 2, 'a', 'b', 0, 0, 0, 0, 0, 0, 0, 0, 0, 0, 0, 1, 'c'}},
		{"a blob above the limit", octet.Out{}.Blob(long), join([]byte{0, 0, 16, 1}, long)},
		{"nothing", octet.Out{}.One().Four().Eight().Sum().Blob(), nil},
		{"nothing behind bytes", octet.Out{5, 6}.One().Four().Eight().Sum().Blob(), []byte{5, 6}},
		{"on nil", octet.Out(nil).One(9), []byte{9}},
		{"one behind bytes", octet.Out{5, 6}.One(7), []byte{5, 6, 7}},
		{"four behind bytes", octet.Out{5, 6}.Four(7), []byte{5, 6, 0, 0, 0, 7}},
		{"eight behind bytes", octet.Out{5, 6}.Eight(7), []byte{5, 6, 0, 0, 0, 0, 0, 0, 0, 7}},
		{"a sum behind bytes", octet.Out{5, 6}.Sum(ramp(3)), join([]byte{5, 6}, rampBytes(3))},
		{"a blob behind bytes", octet.Out{5, 6}.Blob([]byte{7}), []byte{5, 6, 0, 0, 0, 1, 7}},
	} {
		if !bytes.Equal(c.got, c.want) {
			t.Errorf("P1.1: %s: %x, want %x", c.name, []byte(c.got), c.want)
		}
	}
}

// P1.1: it is the things as they were handed in that are laid, wherever they lie.
func TestLayOutOfOwnRoom(t *testing.T) {
	room := []byte("xyabcdef")
	if o := octet.Out(room[:2]).Blob(room[2:4], room[4:8]); string(o) != "xy\x00\x00\x00\x02ab\x00\x00\x00\x04cdef" {
		t.Errorf("P1.1: room too small: %q", []byte(o))
	}
	room = append(make([]byte, 0, 100), "xyabcdef"...)
	if o := octet.Out(room[:2]).Blob(room[2:4], room[4:8]); string(o) != "xy\x00\x00\x00\x02ab\x00\x00\x00\x04cdef" {
		t.Errorf("P1.1: room enough: %q", []byte(o))
	}
	room = append(make([]byte, 0, 100), "xyabcdef"...)
	if o := octet.Out(room[:2]).One(room[1:8]...); string(o) != "xyyabcdef" {
		t.Errorf("P1.1: one: %q", []byte(o))
	}
	sums := []api.Digest{ramp(1), ramp(50)}
	if o := octet.Out(sums[1][:0]).Sum(sums...); !bytes.Equal(o, join(rampBytes(1), rampBytes(50))) {
		t.Errorf("P1.1: sums: %x", []byte(o))
	}
}

// P1.1, R3: what is laid is neither changed nor kept, nor is the room behind it.
func TestLayKeepsNothing(t *testing.T) {
	room := []byte("blob, and more")
	ones := []uint8{1, 2, 3}
	fours := []uint32{1, 2, 3}
	eights := []uint64{1, 2, 3}
	sums := []api.Digest{ramp(1), ramp(2)}
	blobs := [][]byte{room[:4], nil}
	o := octet.Out{}.One(ones[:2]...).Four(fours[:2]...).Eight(eights[:2]...).Sum(sums[:1]...).Blob(blobs[:1]...)
	want := join([]byte{1, 2}, []byte{0, 0, 0, 1, 0, 0, 0, 2}, []byte{0, 0, 0, 0, 0, 0, 0, 1, 0, 0, 0, 0, 0, 0, 0, 2}, rampBytes(1), []byte{0, 0, 0, 4}, []byte("blob"))
	if !bytes.Equal(o, want) {
		t.Fatalf("P1.1: %x, want %x", []byte(o), want)
	}
	if string(room) != "blob, and more" || ones[2] != 3 || fours[2] != 3 || eights[2] != 3 || sums[1] != ramp(2) || blobs[1] != nil {
		t.Error("P1.1: an argument or the room behind it was changed")
	}
	ones[0], fours[0], eights[0], sums[0], room[0] = 9, 9, 9, ramp(9), 'X'
	if !bytes.Equal(o, want) {
		t.Error("P1.1: an argument was kept")
	}
	p := octet.Out{}.One(ones...)
	p[0] = 77
	if ones[0] != 9 {
		t.Error("P1.1: the answer is the argument's memory")
	}
}

// P1.2: what is taken, and how many bytes are left.
func TestTake(t *testing.T) {
	p := join([]byte{200}, []byte{1, 2, 3, 4}, []byte{255, 2, 3, 4, 5, 6, 7, 8}, rampBytes(9), []byte{0, 0, 0, 2, 'a', 'b'}, []byte{3}, []byte{128})
	in := octet.Of(p)
	wantLeft(t, "P1.2: new", in, 53)
	if n := in.One(); n != 200 {
		t.Errorf("P1.2: One: %d", n)
	}
	wantLeft(t, "P1.2: One", in, 52)
	if n := in.Four(); n != 0x01020304 {
		t.Errorf("P1.2: Four: %x", n)
	}
	wantLeft(t, "P1.2: Four", in, 48)
	if n := in.Eight(); n != 0xff02030405060708 {
		t.Errorf("P1.2: Eight: %x", n)
	}
	wantLeft(t, "P1.2: Eight", in, 40)
	if d := in.Sum(); d != ramp(9) {
		t.Errorf("P1.2: Sum: %x", d)
	}
	wantLeft(t, "P1.2: Sum", in, 8)
	if b := in.Blob(2); string(b) != "ab" {
		t.Errorf("P1.2: Blob: %q", b)
	}
	wantLeft(t, "P1.2: Blob", in, 2)
	if n := in.Many(3); n != 3 {
		t.Errorf("P1.2: Many: %d", n)
	}
	wantLeft(t, "P1.2: Many", in, 1)
	if n := in.One(); n != 128 {
		t.Errorf("P1.2: One: %d", n)
	}
	wantLeft(t, "P1.2: all taken", in, 0)
}

// P1.2: too few bytes are left.
func TestTakeShort(t *testing.T) {
	full := bytes.Repeat([]byte{255}, 32)
	for n := range 32 {
		p := full[:n]
		in := octet.Of(p)
		if d := in.Sum(); d != (api.Digest{}) {
			t.Errorf("P1.2: Sum of %d bytes: %x", n, d)
		}
		wantBad(t, "P1.2: Sum", in, api.ErrShort)
		if n < 8 {
			in = octet.Of(p)
			if v := in.Eight(); v != 0 {
				t.Errorf("P1.2: Eight of %d bytes: %x", n, v)
			}
			wantBad(t, "P1.2: Eight", in, api.ErrShort)
		}
		if n < 4 {
			in = octet.Of(p)
			if v := in.Four(); v != 0 {
				t.Errorf("P1.2: Four of %d bytes: %x", n, v)
			}
			wantBad(t, "P1.2: Four", in, api.ErrShort)
		}
	}
	for _, p := range [][]byte{nil, {}} {
		in := octet.Of(p)
		wantLeft(t, "P1.2: of nothing", in, 0)
		if v := in.One(); v != 0 {
			t.Errorf("P1.2: One of nothing: %d", v)
		}
		wantBad(t, "P1.2: One", in, api.ErrShort)
	}
}

// P1.2: blobs, with their limits.
func TestTakeBlob(t *testing.T) {
	top := bytes.Repeat([]byte{1}, api.MaxBlob)
	more := bytes.Repeat([]byte{1}, api.MaxBlob+1)
	for _, c := range []struct {
		name string
		in   []byte
		most int
		want []byte
		e    api.Errno
		left int
	}{
		{"ordinary", []byte{0, 0, 0, 1, 'a', 'b'}, 9, []byte("a"), api.OK, 1},
		{"as many as most", []byte{0, 0, 0, 2, 'a', 'b', 'c'}, 2, []byte("ab"), api.OK, 1},
		{"one more than most", []byte{0, 0, 0, 2, 'a', 'b', 'c'}, 1, nil, api.ErrLimit, 0},
		{"one more than most, nothing behind", []byte{0, 0, 0, 2}, 1, nil, api.ErrLimit, 0},
		{"empty", []byte{0, 0, 0, 0, 'a'}, 1, nil, api.OK, 1},
		{"empty, at most 0", []byte{0, 0, 0, 0, 'a'}, 0, nil, api.OK, 1},
		{"some, at most 0", []byte{0, 0, 0, 1, 'a'}, 0, nil, api.ErrLimit, 0},
		{"empty, most below 0", []byte{0, 0, 0, 0, 'a'}, -1, nil, api.ErrLimit, 0},
		{"some, most below 0", []byte{0, 0, 0, 1, 'a'}, -1, nil, api.ErrLimit, 0},
		{"some, the lowest most", []byte{0, 0, 0, 1, 'a'}, math.MinInt, nil, api.ErrLimit, 0},
		{"as many as MaxBlob", join([]byte{0, 0, 16, 0}, top, []byte{5}), api.MaxBlob, top, api.OK, 1},
		{"as many as MaxBlob, a great most", join([]byte{0, 0, 16, 0}, top), math.MaxInt, top, api.OK, 0},
		{"one more than MaxBlob", join([]byte{0, 0, 16, 1}, more), math.MaxInt, nil, api.ErrLimit, 0},
		{"one more than MaxBlob, within most", join([]byte{0, 0, 16, 1}, more), api.MaxBlob + 1, nil, api.ErrLimit, 0},
		{"one more than MaxBlob, nothing behind", []byte{0, 0, 16, 1}, math.MaxInt, nil, api.ErrLimit, 0},
		{"the greatest number", []byte{255, 255, 255, 255, 1}, math.MaxInt, nil, api.ErrLimit, 0},
		{"the highest bit", []byte{128, 0, 0, 0, 1}, 0, nil, api.ErrLimit, 0},
		{"too few", []byte{0, 0, 0, 3, 'a', 'b'}, 3, nil, api.ErrShort, 0},
		{"none there", []byte{0, 0, 0, 1}, 3, nil, api.ErrShort, 0},
		{"too few of MaxBlob", join([]byte{0, 0, 16, 0}, top[1:]), api.MaxBlob, nil, api.ErrShort, 0},
		{"three bytes of the number", []byte{0, 0, 0}, 3, nil, api.ErrShort, 0},
		{"three bytes, most below 0", []byte{255, 255, 255}, -1, nil, api.ErrShort, 0},
		{"nothing", nil, 3, nil, api.ErrShort, 0},
		{"nothing, most below 0", nil, -1, nil, api.ErrShort, 0},
	} {
		in := octet.Of(c.in)
		if got := in.Blob(c.most); !bytes.Equal(got, c.want) {
			t.Errorf("P1.2: Blob, %s: %x, want %x", c.name, got, c.want)
		}
		if c.e == api.OK {
			wantLeft(t, "P1.2: Blob, "+c.name, in, c.left)
		} else {
			wantBad(t, "P1.2: Blob, "+c.name, in, c.e)
		}
	}
}

// P1.2: how many, with its limit.
func TestTakeMany(t *testing.T) {
	for _, c := range []struct {
		name string
		in   []byte
		most int
		want int
		e    api.Errno
	}{
		{"ordinary", []byte{3, 9}, 8, 3, api.OK},
		{"as many as most", []byte{8, 9}, 8, 8, api.OK},
		{"one more than most", []byte{9, 9}, 8, 0, api.ErrLimit},
		{"none", []byte{0, 9}, 8, 0, api.OK},
		{"none, at most 0", []byte{0, 9}, 0, 0, api.OK},
		{"one, at most 0", []byte{1, 9}, 0, 0, api.ErrLimit},
		{"none, most below 0", []byte{0, 9}, -1, 0, api.ErrLimit},
		{"some, the lowest most", []byte{5, 9}, math.MinInt, 0, api.ErrLimit},
		{"the greatest", []byte{255, 9}, 255, 255, api.OK},
		{"the greatest, a great most", []byte{255, 9}, math.MaxInt, 255, api.OK},
		{"the greatest, one less", []byte{255, 9}, 254, 0, api.ErrLimit},
		{"nothing", nil, 8, 0, api.ErrShort},
		{"nothing, most below 0", nil, -1, 0, api.ErrShort},
	} {
		in := octet.Of(c.in)
		if got := in.Many(c.most); got != c.want {
			t.Errorf("P1.2: Many, %s: %d, want %d", c.name, got, c.want)
		}
		if c.e == api.OK {
			wantLeft(t, "P1.2: Many, "+c.name, in, 1)
		} else {
			wantBad(t, "P1.2: Many, "+c.name, in, c.e)
		}
	}
}

// P1.2: what is wrong first stays so.
func TestFail(t *testing.T) {
	in := octet.Of([]byte{1, 2, 3})
	in.Fail(api.OK)
	wantLeft(t, "P1.2: Fail(OK)", in, 3)
	if in.One() != 1 {
		t.Error("P1.2: Fail(OK) took something")
	}
	in.Fail(api.ErrSign)
	wantBad(t, "P1.2: Fail", in, api.ErrSign)
	in.Fail(api.ErrArg)
	wantBad(t, "P1.2: Fail twice", in, api.ErrSign)
	in.Fail(api.OK)
	wantBad(t, "P1.2: Fail(OK) behind it", in, api.ErrSign)

	for _, e := range []api.Errno{api.ErrNil, api.ErrForm, -1, 1000, math.MaxInt, math.MinInt} {
		in = octet.Of([]byte{1, 2, 3})
		in.Fail(e)
		wantBad(t, "P1.2: Fail", in, e)
	}

	in = octet.Of([]byte{1})
	in.Four()
	in.Fail(api.ErrArg)
	wantBad(t, "P1.2: Fail behind ErrShort", in, api.ErrShort)

	in = octet.Of([]byte{9, 9})
	in.Many(8)
	in.Fail(api.ErrArg)
	wantBad(t, "P1.2: Fail behind ErrLimit", in, api.ErrLimit)

	in = octet.Of(nil)
	in.Fail(api.ErrRound)
	wantBad(t, "P1.2: Fail, nothing left", in, api.ErrRound)
}

// P1.2, R2: End changes nothing.
func TestEnd(t *testing.T) {
	in := octet.Of([]byte{1, 2})
	if in.End() != api.ErrForm || in.End() != api.ErrForm {
		t.Errorf("P1.2: End: %d", in.End())
	}
	if in.Bad() != api.OK || in.Left() != 2 || in.One() != 1 {
		t.Error("P1.2: End changed something")
	}
	in.One()
	if in.End() != api.OK {
		t.Errorf("P1.2: End: %d", in.End())
	}
	in.One()
	if in.End() != api.ErrShort || in.Bad() != api.ErrShort {
		t.Errorf("P1.2: End behind an error: %d", in.End())
	}
}

// P1.2, R1: of a nil In all is zero, but what is wrong.
func TestNilIn(t *testing.T) {
	var in *octet.In
	takeNothing(t, "P1.2: nil", in)
	in.Fail(api.ErrArg)
	in.Fail(api.OK)
	if in.Left() != 0 {
		t.Errorf("P1.2: nil: left %d", in.Left())
	}
	if in.Bad() != api.ErrNil || in.End() != api.ErrNil {
		t.Errorf("P1.2: nil: bad %d, end %d", in.Bad(), in.End())
	}
	takeNothing(t, "P1.2: nil", in)
}

// R1: an In that comes from elsewhere doesn't panic.
func TestForeignIn(t *testing.T) {
	var in octet.In
	in.Left()
	in.Bad()
	in.End()
	in.Many(-1)
	in.Blob(-1)
	in.Sum()
	in.Fail(api.ErrArg)
	in.End()
}

// P1.2, R3: the bytes handed in are neither changed nor kept; those handed out are new, their room too.
func TestTakeKeepsNothing(t *testing.T) {
	p := []byte{0, 0, 0, 1, 'a', 0, 0, 0, 1, 'b', 7}
	in := octet.Of(p[:10])
	for i := range p {
		p[i] = 255
	}
	a := in.Blob(1)
	if string(a) != "a" {
		t.Fatalf("P1.2: what was handed in is kept: %q", a)
	}
	a[0] = 'x'
	room := a[:cap(a)]
	for i := range room {
		room[i] = 'x'
	}
	b := in.Blob(1)
	if string(b) != "b" || string(a) != "x" {
		t.Errorf("P1.2: what was handed out is shared: %q, %q", a, b)
	}
	for i, c := range p {
		if c != 255 {
			t.Errorf("P1.2: what was handed in is changed at %d", i)
		}
	}
	if in.End() != api.OK {
		t.Errorf("P1.2: End: %d", in.End())
	}
}

// P1.2, R5: two Ins of the same bytes have nothing to do with each other.
func TestTwoIns(t *testing.T) {
	p := []byte{1, 2, 3}
	a, b := octet.Of(p), octet.Of(p)
	a.Fail(api.ErrArg)
	if b.One() != 1 || b.Left() != 2 || b.Bad() != api.OK {
		t.Error("P1.2: one In's fault is another's")
	}
}

// steps are numbers without a pattern, always the same ones.
type steps uint64

func (s *steps) next() uint64 {
	*s = *s*6364136223846793005 + 1442695040888963407
	x := uint64(*s)
	return x ^ x>>29
}

// P1.3.
func TestThereAndBack(t *testing.T) {
	s := steps(1)
	for range 300 {
		backAsLaid(t, &s)
	}
	all := []byte{}
	for i := range 256 {
		all = append(all, byte(i))
	}
	in := octet.Of(octet.Out{}.One(all...))
	for i := range 256 {
		if n := in.One(); n != byte(i) {
			t.Errorf("P1.3: %d is taken as %d", i, n)
		}
	}
	wantLeft(t, "P1.3: all bytes", in, 0)
	for _, n := range []int{0, 1, 255, 256, 257, api.MaxBlob - 1, api.MaxBlob} {
		blob := bytes.Repeat([]byte{0xa5}, n)
		in := octet.Of(octet.Out{}.Blob(blob))
		if got := in.Blob(api.MaxBlob); !bytes.Equal(got, blob) {
			t.Errorf("P1.3: a blob of %d bytes is taken as one of %d", n, len(got))
		}
		wantLeft(t, "P1.3: a blob", in, 0)
	}
}

// backAsLaid lays some things in some order, and takes them again.
func backAsLaid(t *testing.T, s *steps) {
	var o octet.Out
	var takes []func(*octet.In) bool
	for range s.next() % 20 {
		n := s.next() >> (s.next() % 64)
		switch s.next() % 6 {
		case 0:
			o = o.One(uint8(n))
			takes = append(takes, func(in *octet.In) bool { return in.One() == uint8(n) })
		case 1:
			o = o.Four(uint32(n))
			takes = append(takes, func(in *octet.In) bool { return in.Four() == uint32(n) })
		case 2:
			o = o.Eight(n)
			takes = append(takes, func(in *octet.In) bool { return in.Eight() == n })
		case 3:
			o = o.Sum(ramp(byte(n)))
			takes = append(takes, func(in *octet.In) bool { return in.Sum() == ramp(byte(n)) })
		case 4:
			blob := bytes.Repeat([]byte{byte(n)}, int(n%300))
			o = o.Blob(blob)
			takes = append(takes, func(in *octet.In) bool { return bytes.Equal(in.Blob(len(blob)), blob) })
		case 5:
			o = o.One(uint8(n))
			takes = append(takes, func(in *octet.In) bool { return in.Many(int(uint8(n))) == int(uint8(n)) })
		}
	}
	in := octet.Of(o)
	for i, take := range takes {
		if !take(in) {
			t.Fatalf("P1.3: thing %d of %d isn't as it was laid", i, len(takes))
		}
	}
	wantLeft(t, "P1.3: there and back", in, 0)
}
