package memo_test

import (
	"bytes"
	"encoding/binary"
	"encoding/hex"
	"math/rand"
	"slices"
	"strings"
	"testing"

	"tollhouse/api"
	"tollhouse/lamp"
	"tollhouse/memo"
	"tollhouse/octet"
	"tollhouse/pact"
	"tollhouse/ring"
)

// How many bytes things have: a memo's kind and channel, a Round, a wish, a hop, a signature but for its Way, a sum.
const (
	headSize  = 5
	roundSize = 8
	opSize    = 74
	hopSize   = 20
	sigSize   = 5 + 32*lamp.Bits
	sumSize   = 32
	// byAt is where an Offer's wish has whose its Cond is.
	opAt = headSize + roundSize
	byAt = opAt + 17 + 8
	// countAt is where an Offer has how many hops there are.
	countAt = opAt + opSize
)

// laidTrail, laidOp, laidSig and laid are bytes by the chapters' words.
func laidTrail(p []byte, l []memo.Hop) []byte {
	p = append(p, byte(len(l)))
	for _, h := range l {
		p = binary.BigEndian.AppendUint32(p, h.Channel)
		p = binary.BigEndian.AppendUint64(p, h.Amount)
		p = binary.BigEndian.AppendUint64(p, h.Id)
	}
	return p
}

func laidOp(p []byte, op pact.Op) []byte {
	p = append(p, byte(op.Kind))
	p = binary.BigEndian.AppendUint64(p, op.Amount)
	p = binary.BigEndian.AppendUint64(p, op.Id)
	p = binary.BigEndian.AppendUint64(p, op.Cond.Id)
	p = append(p, byte(op.Cond.By))
	p = binary.BigEndian.AppendUint64(p, op.Cond.Amount)
	p = append(p, op.Cond.Hash[:]...)
	return binary.BigEndian.AppendUint64(p, op.Cond.Expiry)
}

func laidSig(p []byte, s ring.Sig) []byte {
	p = binary.BigEndian.AppendUint32(p, s.Key)
	p = append(p, byte(len(s.Way)))
	for place := range lamp.Bits {
		p = append(p, s.Open[place][:]...)
		p = append(p, s.Other[place][:]...)
	}
	for _, d := range s.Way {
		p = append(p, d[:]...)
	}
	return p
}

// laid asks nothing of the memo.
func laid(m memo.Memo) []byte {
	p := binary.BigEndian.AppendUint32([]byte{byte(m.Kind)}, m.Channel)
	if m.Kind != memo.Ask {
		p = binary.BigEndian.AppendUint64(p, m.Round)
	}
	if m.Kind == memo.Offer {
		p = laidTrail(laidOp(p, m.Op), m.Trail)
	}
	if m.Kind != memo.Ask {
		p = laidSig(p, m.Sig)
	}
	return p
}

// wantRead: these bytes are the memo's, and the memo is theirs.
func wantRead(t *testing.T, name string, m memo.Memo) {
	t.Helper()
	p, e := m.Bytes()
	if e != api.OK || !bytes.Equal(p, laid(m)) {
		t.Errorf("P18.2: %s: Bytes: %d of them, %d", name, len(p), e)
	}
	got, e := memo.Read(laid(m))
	if e != api.OK || !same(got, m) || !got.Right() {
		t.Errorf("P18.3: %s: Read: %v, %d; want %v", name, got, e, m)
	}
	if q, e := got.Bytes(); e != api.OK || !bytes.Equal(q, laid(m)) {
		t.Errorf("P18.3: %s: what was read has other bytes: %d", name, e)
	}
}

// wantUnread: these bytes are no memo's.
func wantUnread(t *testing.T, name string, p []byte, want api.Errno) {
	t.Helper()
	before := slices.Clone(p)
	if got, e := memo.Read(p); e != want || !same(got, memo.Memo{}) {
		t.Errorf("P18.2: %s, %d bytes: %v, %d; want %d", name, len(p), got, e, want)
	}
	if !bytes.Equal(p, before) {
		t.Errorf("R3: %s: Read changed the bytes", name)
	}
}

// P18.2: bytes that are written out; of signatures what has a name in the chapters is written out, and the pieces aren't.
func TestBytesWrittenOut(t *testing.T) {
	bare := ring.Sig{Key: 0x21, Way: []api.Digest{ramp(0)}}
	bare.Open[0][0], bare.Other[31][15] = 0xaa, 0xbb
	pieces := "aa" + strings.Repeat("00", 1022) + "bb"
	way := "000102030405060708090a0b0c0d0e0f101112131415161718191a1b1c1d1e1f"
	op := "02" + "0000000000000003" + "0000000000000004" + "0000000000000005" + "01" + "0000000000000006" +
		"0708090a0b0c0d0e0f101112131415161718191a1b1c1d1e1f20212223242526" + "0000000000000008"
	hops := []memo.Hop{{Channel: 9, Amount: 10, Id: 11}, {Channel: 1 << 31, Amount: 1 << 63, Id: top}}
	for _, c := range []struct {
		m    memo.Memo
		want string
	}{
		{memo.Memo{}, "00" + "00000000"},
		{ask(), "00" + "00000005"},
		{memo.Memo{Channel: 0xfffefdfc}, "00" + "fffefdfc"},
		{memo.Memo{Kind: memo.Agree, Channel: 3, Round: 258, Sig: bare}, "02" + "00000003" + "0000000000000102" + "00000021" + "01" + pieces + way},
		{memo.Memo{Kind: memo.Agree}, "02" + "00000000" + "0000000000000000" + "00000000" + "00" + strings.Repeat("00", 1024)},
		{memo.Memo{Kind: memo.Offer, Channel: 3, Round: 258, Op: wish(), Trail: hops, Sig: bare},
			"01" + "00000003" + "0000000000000102" + op + "02" + "00000009" + "000000000000000a" + "000000000000000b" +
				"80000000" + "8000000000000000" + "ffffffffffffffff" + "00000021" + "01" + pieces + way},
		{memo.Memo{Kind: memo.Offer, Channel: 3, Round: 1, Op: pact.Op{Kind: pact.Take, Amount: 7}},
			"01" + "00000003" + "0000000000000001" + "05" + "0000000000000007" + strings.Repeat("00", 65) + "00" + "00000000" + "00" + strings.Repeat("00", 1024)},
	} {
		p, e := c.m.Bytes()
		if got := hex.EncodeToString(p); e != api.OK || got != c.want {
			t.Errorf("P18.2: Bytes of the kind %d: %s, %d; want %s", c.m.Kind, got, e, c.want)
		}
		q, _ := hex.DecodeString(c.want)
		if got, e := memo.Read(q); e != api.OK || !same(got, c.m) {
			t.Errorf("P18.2: Read of the kind %d: %v, %d", c.m.Kind, got, e)
		}
	}
}

// P18.2, P18.3: memos of all kinds, Trails and Ways of each length.
func TestBytesRead(t *testing.T) {
	for _, channel := range []uint32{0, 1, 255, 1 << 31, 1<<32 - 1} {
		wantRead(t, "an Ask", memo.Memo{Channel: channel})
	}
	for way := range 9 {
		wantRead(t, "an Agree", agree(way))
		for hops := range 8 {
			m := offer(hops, way)
			wantRead(t, "an Offer", m)
			if p, _ := m.Bytes(); len(p) != countAt+1+hops*hopSize+sigSize+way*sumSize {
				t.Errorf("P18.2: an Offer of %d hops, with a Way of %d, has %d bytes", hops, way, len(p))
			}
		}
	}
	for kind := pact.Pass; kind <= pact.Take; kind++ {
		for by := api.Left; by <= api.Right; by++ {
			m := offer(1, 1)
			m.Op.Kind, m.Op.Cond.By = kind, by
			wantRead(t, "an Offer of each wish", m)
		}
	}
}

// P18.2, P18.3: memos that may be, by chance, at the ends of the numbers.
func TestBytesReadByChance(t *testing.T) {
	d := rand.New(rand.NewSource(18))
	n := func() uint64 { return d.Uint64() >> (d.Intn(5) * 16) }
	for range 1000 {
		m := memo.Memo{Kind: d.Intn(3), Channel: d.Uint32() >> d.Intn(32)}
		if m.Kind != memo.Ask {
			m.Round, m.Sig = n(), ring.Sig{Key: d.Uint32() >> d.Intn(32), Way: sums(d.Intn(9))}
			for place := range lamp.Bits {
				d.Read(m.Sig.Open[place][:])
				d.Read(m.Sig.Other[place][:])
			}
		}
		if m.Kind == memo.Offer {
			m.Op = pact.Op{Kind: d.Intn(6), Amount: n(), Id: n(), Cond: api.Cond{Id: n(), By: api.Side(d.Intn(2)), Amount: n(), Expiry: n()}}
			d.Read(m.Op.Cond.Hash[:])
			for range d.Intn(8) {
				m.Trail = append(m.Trail, memo.Hop{Channel: d.Uint32() >> d.Intn(32), Amount: n(), Id: n()})
			}
		}
		wantRead(t, "by chance", m)
	}
}

// P18.3: bytes by chance: what is read of them has just these bytes, and what isn't has an error.
func TestReadAnyBytes(t *testing.T) {
	d := rand.New(rand.NewSource(19))
	met := map[api.Errno]int{}
	begins := [][]byte{laid(ask()), laid(agree(0)), laid(agree(8)), laid(offer(0, 0)), laid(offer(7, 8)), laid(offer(3, 4))}
	for range 20000 {
		p := slices.Clone(begins[d.Intn(len(begins))])
		for range d.Intn(4) {
			// Most of what can be wrong stands ahead of the signature's pieces.
			p[d.Intn(min(len(p), 1+d.Intn(countAt+60)))] = byte(d.Intn(1 << (1 + d.Intn(8))))
		}
		switch d.Intn(6) {
		case 0:
			p = p[:d.Intn(len(p)+1)]
		case 1:
			p = append(p, make([]byte, d.Intn(40))...)
		}
		m, e := memo.Read(p)
		met[e]++
		if e != api.OK {
			if !same(m, memo.Memo{}) {
				t.Fatalf("R2: %x: %v, %d", p, m, e)
			}
			continue
		}
		if q, e := m.Bytes(); e != api.OK || !bytes.Equal(p, q) || !m.Right() {
			t.Fatalf("P18.3: %x is read, and has the bytes %x, %d", p, q, e)
		}
	}
	for _, e := range []api.Errno{api.OK, api.ErrShort, api.ErrForm, api.ErrLimit} {
		if met[e] < 100 {
			t.Errorf("the error %d was met %d times", e, met[e])
		}
	}
}

// P18.2: bytes cut short at each length, and with some too many.
func TestReadCut(t *testing.T) {
	for _, m := range []memo.Memo{ask(), agree(0), agree(1), agree(8), offer(0, 0), offer(1, 2), offer(7, 8)} {
		full := laid(m)
		for n := range full {
			wantUnread(t, "cut short", full[:n:n], api.ErrShort)
		}
		for _, more := range [][]byte{{0}, {1}, make([]byte, 20), make([]byte, 32), full} {
			wantUnread(t, "bytes are left", slices.Concat(full, more), api.ErrForm)
		}
		// Room behind the bytes isn't theirs.
		roomy := append(make([]byte, 0, 10000), full...)
		if got, e := memo.Read(roomy); e != api.OK || !same(got, m) {
			t.Errorf("P18.2: with room behind: %d", e)
		}
	}
	wantUnread(t, "nil", nil, api.ErrShort)
	wantUnread(t, "no bytes", []byte{}, api.ErrShort)
}

// P18.2: bytes of kinds that there aren't: told behind the channel.
func TestReadNoSuchKind(t *testing.T) {
	for kind := 3; kind < 256; kind++ {
		for _, m := range []memo.Memo{ask(), agree(2), offer(2, 2)} {
			p := laid(m)
			p[0] = byte(kind)
			for n := range headSize {
				wantUnread(t, "no such kind, the channel cut", p[:n], api.ErrShort)
			}
			wantUnread(t, "no such kind", p[:headSize], api.ErrForm)
			wantUnread(t, "no such kind, with something behind", p, api.ErrForm)
			wantUnread(t, "no such kind, cut short behind the channel", p[:max(headSize, len(p)-1)], api.ErrForm)
		}
	}
}

// P18.2: bytes of one kind aren't those of another one.
func TestReadOtherKind(t *testing.T) {
	p := laid(agree(2))
	p[0] = memo.Ask
	wantUnread(t, "an Agree as an Ask", p, api.ErrForm)
	p = laid(ask())
	p[0] = memo.Agree
	wantUnread(t, "an Ask as an Agree", p, api.ErrShort)
	p[0] = memo.Offer
	wantUnread(t, "an Ask as an Offer", p, api.ErrShort)
}

// P18.2: wishes of no kind are told at last, those whose Cond is by no side where they stand.
func TestReadWish(t *testing.T) {
	for kind := 6; kind < 256; kind++ {
		p := laid(offer(2, 3))
		p[opAt] = byte(kind)
		wantUnread(t, "a wish of no kind", p, api.ErrForm)
		wantUnread(t, "a wish of no kind, and bytes left", append(slices.Clone(p), 1), api.ErrForm)
		wantUnread(t, "a wish of no kind, and cut short", p[:len(p)-1], api.ErrShort)
		p[countAt] = 8
		wantUnread(t, "a wish of no kind, and too many hops", p, api.ErrLimit)
	}
	for _, by := range []byte{2, 3, 127, 128, 254, 255} {
		p := laid(offer(2, 3))
		p[byAt] = by
		wantUnread(t, "a Cond by no side", p, api.ErrForm)
		wantUnread(t, "a Cond by no side, and cut short behind it", p[:countAt], api.ErrForm)
		wantUnread(t, "a Cond by no side, and cut short in it", p[:countAt-1], api.ErrShort)
		p[countAt] = 8
		wantUnread(t, "a Cond by no side, and too many hops", p, api.ErrForm)
	}
}

// P18.2: Trails of more than 7 hops, Ways of more than 8, whatever is left behind.
func TestReadLimit(t *testing.T) {
	for many := 8; many < 256; many++ {
		p := laid(offer(many, 3))
		wantUnread(t, "too many hops", p, api.ErrLimit)
		wantUnread(t, "too many hops, none there", p[:countAt+1], api.ErrLimit)
		wantUnread(t, "how many hops isn't there", p[:countAt], api.ErrShort)
		wantUnread(t, "too many hops, and bytes left", append(p, 0), api.ErrLimit)
		if many == 8 {
			continue
		}
		p = laid(offer(2, many))
		wantUnread(t, "an Offer's Way is too long", p, api.ErrLimit)
		wantUnread(t, "an Offer's Way is too long, and cut short", p[:countAt+1+2*hopSize+5], api.ErrLimit)
		wantUnread(t, "an Offer's Way is too long, and bytes left", append(p, 0), api.ErrLimit)
		p = laid(agree(many))
		wantUnread(t, "an Agree's Way is too long", p, api.ErrLimit)
		wantUnread(t, "an Agree's Way is too long, and cut short", p[:headSize+roundSize+5], api.ErrLimit)
		wantUnread(t, "how long an Agree's Way is isn't there", p[:headSize+roundSize+4], api.ErrShort)
	}
}

// R3: bytes aren't kept by what is read of them, nor a memo by its bytes.
func TestBytesAreNew(t *testing.T) {
	for _, m := range []memo.Memo{ask(), offer(7, 8), agree(8)} {
		want, before := laid(m), copied(m)
		a, _ := m.Bytes()
		b, _ := m.Bytes()
		clear(a[:cap(a)])
		if !same(m, before) || !bytes.Equal(b, want) {
			t.Errorf("R3: a memo of the kind %d, or its bytes, were turned with other bytes of it", m.Kind)
		}
		p := slices.Clone(want)
		x, _ := memo.Read(p)
		y, _ := memo.Read(p)
		clear(p)
		if !same(x, m) {
			t.Errorf("R3: Read of the kind %d kept the bytes", m.Kind)
		}
		clear(x.Trail[:cap(x.Trail)])
		clear(x.Sig.Way[:cap(x.Sig.Way)])
		if !same(y, m) {
			t.Errorf("R3: two memos of the kind %d that were read share memory", m.Kind)
		}
	}
}

// R3: a memo's bytes don't turn the room behind its lists.
func TestBytesLeaveRoom(t *testing.T) {
	hops, way := trail(7), sums(8)
	m := memo.Memo{Kind: memo.Offer, Trail: hops[:2], Sig: ring.Sig{Way: way[:3]}}
	if _, e := m.Bytes(); e != api.OK || !slices.Equal(hops, trail(7)) || !slices.Equal(way, sums(8)) {
		t.Errorf("R3: Bytes: %d, or it changed the room behind the lists", e)
	}
}

// P18.1: a Trail that is written out.
func TestLayTrailWrittenOut(t *testing.T) {
	hops := []memo.Hop{{Channel: 0x01020304, Amount: 0x1112131415161718, Id: 0x2122232425262728}, {Id: 1}}
	want := "02" + "01020304" + "1112131415161718" + "2122232425262728" + "00000000" + "0000000000000000" + "0000000000000001"
	if got := hex.EncodeToString(memo.LayTrail(nil, hops)); got != want {
		t.Errorf("P18.1: LayTrail: %s, want %s", got, want)
	}
	if got := hex.EncodeToString(memo.LayTrail(nil, nil)); got != "00" {
		t.Errorf("P18.1: LayTrail of no hop: %s", got)
	}
}

// P18.1: a Trail behind what was laid, also one of more hops than there may be.
func TestLayTrail(t *testing.T) {
	for _, many := range []int{0, 1, 2, 6, 7, 8, 9, 255, 256, 257, 300} {
		l := trail(many)
		want := laidTrail(nil, l)
		for _, before := range []octet.Out{nil, {}, {7}, append(make(octet.Out, 0, 20000), 9, 8)} {
			begin := bytes.Clone(before)
			if got := memo.LayTrail(before, l); !bytes.Equal(got, append(begin, want...)) {
				t.Errorf("P18.1: %d hops, laid behind %x: %x", many, begin, []byte(got))
			}
		}
		o := memo.LayTrail(nil, l)
		if !slices.Equal(l, trail(many)) {
			t.Error("R3: LayTrail changed the hops")
		}
		clear(l)
		if !bytes.Equal(o, want) {
			t.Error("R3: LayTrail kept the hops")
		}
	}
}

// P18.1: a Trail off an In, and what is behind it stays.
func TestTakeTrail(t *testing.T) {
	for many := range 8 {
		in := octet.Of(append(laidTrail([]byte{5}, trail(many)), 6))
		in.One()
		if got := memo.TakeTrail(in); !slices.Equal(got, trail(many)) || in.Left() != 1 || in.Bad() != api.OK {
			t.Errorf("P18.1: %d hops: %v, left %d, bad %d", many, got, in.Left(), in.Bad())
		}
		if n := in.One(); n != 6 || in.End() != api.OK {
			t.Errorf("P18.1: behind %d hops: %d, end %d", many, n, in.End())
		}
	}
}

// wantNoTrail: of these bytes no Trail is taken.
func wantNoTrail(t *testing.T, name string, p []byte, want api.Errno) {
	t.Helper()
	in := octet.Of(p)
	if got := memo.TakeTrail(in); len(got) > 0 || in.Bad() != want || in.Left() != 0 {
		t.Errorf("P18.1: %s: %v, bad %d, left %d; want %d", name, got, in.Bad(), in.Left(), want)
	}
}

// P18.1: Trails cut short, too long ones, and what is wrong with the In.
func TestTakeTrailWrong(t *testing.T) {
	for many := range 8 {
		full := laidTrail(nil, trail(many))
		for n := range full {
			wantNoTrail(t, "cut short", full[:n], api.ErrShort)
		}
	}
	for many := 8; many < 256; many++ {
		full := laidTrail(nil, trail(many))
		wantNoTrail(t, "too many hops", full, api.ErrLimit)
		wantNoTrail(t, "too many hops, none there", full[:1], api.ErrLimit)
		wantNoTrail(t, "too many hops, and cut short", full[:len(full)-1], api.ErrLimit)
	}
	if l := memo.TakeTrail(nil); len(l) > 0 {
		t.Errorf("R1: of a nil In: %v", l)
	}
	if l := memo.TakeTrail(&octet.In{}); len(l) > 0 {
		t.Errorf("R1: of an empty In: %v", l)
	}
	in := octet.Of(laidTrail(nil, trail(2)))
	in.Fail(api.ErrRound)
	if l := memo.TakeTrail(in); len(l) > 0 || in.Bad() != api.ErrRound || in.Left() != 0 {
		t.Errorf("P18.1: of a bad In: %v, %d", l, in.Bad())
	}
}

// R3: Trails that are taken are new memory, their spare room too.
func TestTakeTrailIsNew(t *testing.T) {
	for many := range 8 {
		p := laidTrail(nil, trail(many))
		in := octet.Of(slices.Concat(p, p))
		first := memo.TakeTrail(in)
		clear(first[:cap(first)])
		if second := memo.TakeTrail(in); !slices.Equal(second, trail(many)) {
			t.Error("R3: two Trails that were taken share their memory")
		}
	}
}
