package clerk_test

import (
	"bytes"
	"encoding/binary"
	"encoding/hex"
	"math/rand"
	"slices"
	"strings"
	"testing"

	"tollhouse/api"
	"tollhouse/clerk"
	"tollhouse/memo"
	"tollhouse/pact"
)

// How many bytes a wish has without its hops, and a hop; and where its Cond's By, and how many hops there are, stand.
const (
	wishSize = 75
	hopSize  = 20
	byAt     = 1 + 8 + 8 + 8
	countAt  = wishSize - 1
)

// laidWish is a wish as bytes, by the chapters' words.
func laidWish(p []byte, w clerk.Wish) []byte {
	p = append(p, byte(w.Op.Kind))
	p = binary.BigEndian.AppendUint64(p, w.Op.Amount)
	p = binary.BigEndian.AppendUint64(p, w.Op.Id)
	p = binary.BigEndian.AppendUint64(p, w.Op.Cond.Id)
	p = append(p, byte(w.Op.Cond.By))
	p = binary.BigEndian.AppendUint64(p, w.Op.Cond.Amount)
	p = append(p, w.Op.Cond.Hash[:]...)
	p = binary.BigEndian.AppendUint64(p, w.Op.Cond.Expiry)
	p = append(p, byte(len(w.Trail)))
	for _, h := range w.Trail {
		p = binary.BigEndian.AppendUint32(p, h.Channel)
		p = binary.BigEndian.AppendUint64(p, h.Amount)
		p = binary.BigEndian.AppendUint64(p, h.Id)
	}
	return p
}

func laid(l ...clerk.Wish) []byte {
	p := []byte{byte(len(l))}
	for _, w := range l {
		p = laidWish(p, w)
	}
	return p
}

// wantSaved: these wishes have these bytes, and these bytes are theirs.
func wantSaved(t *testing.T, name string, l []clerk.Wish) {
	t.Helper()
	if p := clerk.Save(l); !bytes.Equal(p, laid(l...)) {
		t.Errorf("P20.3: %s: Save: %x; want %x", name, p, laid(l...))
	}
	wantLoaded(t, name, laid(l...), l)
}

func wantLoaded(t *testing.T, name string, p []byte, want []clerk.Wish) {
	t.Helper()
	before := slices.Clone(p)
	if got, e := clerk.Load(p); e != api.OK || !sameWishes(got, want) {
		t.Errorf("P20.4: %s: Load: %v, %d; want %v", name, got, e, want)
	}
	if !bytes.Equal(p, before) {
		t.Errorf("R3: %s: Load changed the bytes", name)
	}
}

func wantUnloaded(t *testing.T, name string, p []byte, want api.Errno) {
	t.Helper()
	if l, e := clerk.Load(p); e != want || len(l) != 0 {
		t.Errorf("P20.3: %s: Load of %d bytes: %v, %d; want %d", name, len(p), l, e, want)
	}
}

// many are so many wishes, no two alike.
func many(n int) []clerk.Wish {
	var l []clerk.Wish
	for i := range n {
		w := wish(i%6, i%8)
		w.Op.Amount, w.Op.Cond.By = uint64(i)<<40, api.Side(i%2)
		l = append(l, w)
	}
	return l
}

// P20.3: bytes that are written out.
func TestSaveWrittenOut(t *testing.T) {
	p := api.Cond{Id: 5, By: api.Right, Amount: 6, Expiry: 8}
	for i := range p.Hash {
		p.Hash[i] = byte(7 + i)
	}
	lock := clerk.Wish{Op: pact.Op{Kind: pact.Lock, Amount: 3, Id: 4, Cond: p}, Trail: []memo.Hop{{Channel: 9, Amount: 10, Id: 11}, {Channel: 1 << 31, Amount: 1 << 63, Id: top}}}
	lockHex := "02" + "0000000000000003" + "0000000000000004" + "0000000000000005" + "01" + "0000000000000006" +
		"0708090a0b0c0d0e0f101112131415161718191a1b1c1d1e1f20212223242526" + "0000000000000008" +
		"02" + "00000009" + "000000000000000a" + "000000000000000b" + "80000000" + "8000000000000000" + "ffffffffffffffff"
	doneHex := "03" + "0000000000000000" + "0000000000000102" + strings.Repeat("00", 57) + "00"
	for _, w := range []struct {
		l    []clerk.Wish
		want string
	}{
		{nil, "00"},
		{[]clerk.Wish{}, "00"},
		{[]clerk.Wish{{}}, "01" + strings.Repeat("00", 75)},
		{[]clerk.Wish{lock}, "01" + lockHex},
		{[]clerk.Wish{{Op: done(258)}, lock}, "02" + doneHex + lockHex},
	} {
		if got := hex.EncodeToString(clerk.Save(w.l)); got != w.want {
			t.Errorf("P20.3: Save of %v: %s; want %s", w.l, got, w.want)
		}
		bytes, _ := hex.DecodeString(w.want)
		wantLoaded(t, "written out", bytes, w.l)
	}
}

// P20.3, P20.4: as many wishes as there may be, Trails of each length, all that one byte holds.
func TestSave(t *testing.T) {
	for _, n := range []int{0, 1, 2, 3, 8, 100, 254, 255} {
		wantSaved(t, "many", many(n))
	}
	for n := range 8 {
		wantSaved(t, "each Trail", []clerk.Wish{wish(2, n), wish(3, 7-n), wish(2, n)})
	}
	for kind := range 256 {
		wantSaved(t, "each kind", []clerk.Wish{wish(kind, 1)})
	}
	for _, n := range []uint64{0, 1, 255, 256, 1 << 32, 1 << 63, top} {
		for by := api.Left; by <= api.Right; by++ {
			op := pact.Op{Amount: n, Id: n ^ 1, Cond: api.Cond{Id: n ^ 2, By: by, Amount: n ^ 3, Hash: hashOf(n), Expiry: n ^ 4}}
			wantSaved(t, "ends of numbers", []clerk.Wish{{Op: op, Trail: []memo.Hop{{Channel: uint32(n), Amount: n ^ 5, Id: n ^ 6}}}})
		}
	}
}

// P20.3: of more than 255 wishes the first 255 are saved.
func TestSaveTooMany(t *testing.T) {
	for _, n := range []int{255, 256, 257, 300, 511, 512, 513} {
		l := many(n)
		if p := clerk.Save(l); p[0] != 255 || !bytes.Equal(p, laid(l[:255]...)) {
			t.Errorf("P20.3: Save of %d wishes: %d of them, %d bytes", n, p[0], len(p))
		}
		if got, e := clerk.Load(clerk.Save(l)); e != api.OK || !sameWishes(got, l[:255]) {
			t.Errorf("P20.4: Load of %d wishes that were saved: %d, %d", n, len(got), e)
		}
	}
}

// P20.3: of a kind, and of a side, the lowest byte is saved.
func TestSaveLowestBytes(t *testing.T) {
	for _, kind := range farKinds {
		w := wish(kind, 2)
		if p := clerk.Save([]clerk.Wish{w}); !bytes.Equal(p, laid(w)) {
			t.Errorf("P20.3: Save of the kind %d: %x", kind, p)
		}
		w.Op.Kind = int(byte(kind))
		wantLoaded(t, "a kind's lowest byte", laid(wish(kind, 2)), []clerk.Wish{w})
	}
	for _, by := range farSides {
		w := wish(pact.Lock, 2)
		w.Op.Cond.By = by
		p := clerk.Save([]clerk.Wish{w})
		if !bytes.Equal(p, laid(w)) {
			t.Errorf("P20.3: Save of the side %d: %x", by, p)
		}
		if byte(by) > 1 {
			wantUnloaded(t, "no such side", p, api.ErrForm)
		}
	}
}

// P20.3: bytes cut at each place, and with more behind.
func TestLoadCut(t *testing.T) {
	for _, l := range [][]clerk.Wish{nil, {{}}, many(1), many(5), {wish(2, 7), wish(3, 0), wish(1, 7)}} {
		p := laid(l...)
		for cut := range p {
			wantUnloaded(t, "cut", p[:cut], api.ErrShort)
		}
		for _, more := range [][]byte{{0}, {1}, {255}, make([]byte, 75), make([]byte, 76), laid(many(2)...)} {
			wantUnloaded(t, "with more behind", append(slices.Clone(p), more...), api.ErrForm)
		}
	}
	wantUnloaded(t, "no bytes", nil, api.ErrShort)
	// How many there are counts, whatever follows.
	p := laid(many(3)...)
	p[0] = 2
	wantUnloaded(t, "one less than there are", p, api.ErrForm)
	p[0] = 4
	wantUnloaded(t, "one more than there are", p, api.ErrShort)
	p[0] = 255
	wantUnloaded(t, "255", p, api.ErrShort)
	p[0] = 0
	wantUnloaded(t, "none, yet there are", p, api.ErrForm)
}

// P20.3: a Trail of more than 7 hops, wherever it stands, and whatever follows.
func TestLoadLongTrails(t *testing.T) {
	for _, n := range []int{8, 9, 100, 255} {
		for _, l := range [][]clerk.Wish{{wish(2, n)}, {wish(2, 7), wish(2, n)}, {wish(2, n), wish(2, 7)}} {
			p := clerk.Save(l)
			if !bytes.Equal(p, laid(l...)) {
				t.Errorf("P20.3: Save of a Trail of %d hops: %d bytes", n, len(p))
			}
			wantUnloaded(t, "a long Trail", p, api.ErrLimit)
		}
	}
	p := laid(wish(2, 0))
	for _, n := range []byte{8, 9, 255} {
		p[1+countAt] = n
		wantUnloaded(t, "a long Trail, cut short", p, api.ErrLimit)
		wantUnloaded(t, "a long Trail, more behind", append(slices.Clone(p), 1, 2, 3), api.ErrLimit)
	}
	p[1+countAt] = 7
	wantUnloaded(t, "a Trail cut short", p, api.ErrShort)
	wantLoaded(t, "a Trail of 7", append(slices.Clone(p), make([]byte, 7*hopSize)...), []clerk.Wish{{Op: wish(2, 0).Op, Trail: make([]memo.Hop, 7)}})
}

// P20.3: a payment by no side is found behind it, ahead of what follows.
func TestLoadFarSides(t *testing.T) {
	for _, by := range []byte{2, 3, 127, 128, 255} {
		for place := range 3 {
			l := []clerk.Wish{wish(2, 1), wish(0, 2), wish(5, 3)}
			p := laid(l...)
			at := len(laid(l[:place]...))
			p[at+byAt] = by
			wantUnloaded(t, "by no side", p, api.ErrForm)
			wantUnloaded(t, "by no side, cut behind it", p[:at+countAt], api.ErrForm)
			wantUnloaded(t, "by no side, cut in it", p[:at+countAt-1], api.ErrShort)
			p[at+countAt] = 8
			wantUnloaded(t, "by no side, a long Trail", p, api.ErrForm)
			if place > 0 {
				p[1+countAt] = 8
				wantUnloaded(t, "by no side, behind a long Trail", p, api.ErrLimit)
			}
		}
	}
}

// P20.3, P20.4: bytes by chance: what is loaded of them has just these bytes.
func TestLoadAnyBytes(t *testing.T) {
	d := rand.New(rand.NewSource(20))
	met := map[api.Errno]int{}
	for range 20000 {
		p := laid(many(d.Intn(4))...)
		for range d.Intn(3) {
			p[d.Intn(len(p))] = byte(d.Intn(1 << d.Intn(9)))
		}
		if d.Intn(3) == 0 {
			p = p[:d.Intn(len(p))]
		}
		l, e := clerk.Load(p)
		met[e]++
		if e == api.OK && !bytes.Equal(clerk.Save(l), p) || e != api.OK && len(l) > 0 {
			t.Fatalf("P20.4: Load of %x: %v, %d", p, l, e)
		}
	}
	for _, e := range []api.Errno{api.OK, api.ErrShort, api.ErrForm, api.ErrLimit} {
		if met[e] < 10 {
			t.Errorf("the error %d was met %d times", e, met[e])
		}
	}
}
