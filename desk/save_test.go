package desk_test

import (
	"bytes"
	"encoding/binary"
	"encoding/hex"
	"math/rand"
	"slices"
	"strings"
	"testing"

	"tollhouse/api"
	"tollhouse/deed"
	"tollhouse/desk"
	"tollhouse/memo"
	"tollhouse/pact"
	"tollhouse/ring"
)

// stateSize, opSize and hopSize are how many bytes a state without payments has, a wish, and a hop.
const (
	stateSize = 45
	opSize    = 74
	hopSize   = 20
)

// sealed is a deed as a blob, by the chapter's words.
func sealed(d deed.Deed) []byte {
	p := d.Bytes()
	return append(binary.BigEndian.AppendUint32(nil, uint32(len(p))), p...)
}

// laidOffer is an open offer's state, wish and Trail, by the chapter's words.
func laidOffer(s api.State, op pact.Op, trail []memo.Hop) []byte {
	p := deed.LayOp(deed.Lay(nil, s), op)
	p = append(p, byte(len(trail)))
	for _, h := range trail {
		p = binary.BigEndian.AppendUint32(p, h.Channel)
		p = binary.BigEndian.AppendUint64(p, h.Amount)
		p = binary.BigEndian.AppendUint64(p, h.Id)
	}
	return p
}

// wantSaved: the desk is saved as these bytes, and what is loaded of them tells just the same.
func wantSaved(t *testing.T, name string, d *desk.Desk, tall int, want []byte) {
	t.Helper()
	if p := d.Save(); !bytes.Equal(p, want) {
		t.Errorf("P19.3: %s: Save: %x, want %x", name, p, want)
	}
	if x := loaded(t, d.Side(), tall, want); !imageOf(x).same(imageOf(d)) {
		t.Errorf("P19.3: %s: what was loaded isn't what was saved", name)
	}
}

// P19.3: bytes that are written out, but for signatures.
func TestSaveWrittenOut(t *testing.T) {
	d := deskOf(t, 0, 1)
	first := "0000002d" + "01020304" + strings.Repeat("00", 41)
	if got := hex.EncodeToString(d.Save()); got != first+"00" {
		t.Errorf("P19.3: Save of a new desk: %s", got)
	}
	if _, e := d.Offer([2]uint64{9, 0}, pay(4), memo.Hop{Channel: 5, Amount: 6, Id: 7}); e != api.OK {
		t.Fatalf("P19.2: Offer: %d", e)
	}
	want := first + "01" + "01020304" + "0000000000000001" + "0000000000000004" + strings.Repeat("00", 25) +
		"01" + "0000000000000004" + strings.Repeat("00", 65) + "01" + "00000005" + "0000000000000006" + "0000000000000007"
	if got := hex.EncodeToString(d.Save()); got != want {
		t.Errorf("P19.3: Save with an offer: %s, want %s", got, want)
	}
}

// P19.3: desks of both sides ahead of and behind each call, with wishes of each kind and Trails of each length.
func TestSaveLoad(t *testing.T) {
	for kind := pact.Pass; kind <= pact.Take; kind++ {
		for many := range 8 {
			p := newPair(t, 4)
			for round := range uint64(3) + uint64(kind%2) {
				p.do(t, plenty, lock(7+round, p.turn(), 5))
			}
			by := p.turn()
			op := full(kind, by)
			if kind == pact.Lock {
				op.Cond.Id = 99
			}
			best := p.at[0].Best()
			at := func(name string, side api.Side, want ...[]byte) {
				t.Helper()
				wantSaved(t, name, p.at[side], 4, slices.Concat(want...))
			}
			at("ahead of Offer", by, sealed(best), []byte{0})
			at("ahead of Hear", 1-by, sealed(best), []byte{0})
			m, e := p.at[by].Offer(plenty, op, hops(many)...)
			next, _ := pact.Next(best.State, plenty, by, op)
			if e != api.OK {
				t.Fatalf("P19.2: Offer of the kind %d: %d", kind, e)
			}
			at("behind Offer", by, sealed(best), []byte{1}, laidOffer(next, desk.Bare(op), hops(many)))
			x, _, _ := p.at[1-by].Hear(plenty, m)
			newer := p.at[1-by].Best()
			if newer.Round != best.Round+1 {
				t.Fatalf("P19.2: Hear of the kind %d: the round %d", kind, newer.Round)
			}
			at("behind Hear", 1-by, sealed(newer), []byte{0})
			p.at[by].Agreed(x)
			at("behind Agreed", by, sealed(newer), []byte{0})
		}
	}
}

// P19.3: as much as can be saved: 8 payments pending, of a ring of the height 8.
func TestSaveTall(t *testing.T) {
	p := newPair(t, 8)
	for id := range uint64(8) {
		p.do(t, plenty, lock(id, p.turn(), 5))
	}
	m, e := p.at[0].Offer(plenty, pact.Op{}, hops(7)...)
	next, _ := pact.Next(p.at[0].Best().State, plenty, 0, pact.Op{})
	if e != api.OK || !m.Right() {
		t.Fatalf("P19.2: Offer: %d", e)
	}
	wantSaved(t, "as much as can be", p.at[0], 8, slices.Concat(sealed(p.at[0].Best()), []byte{1}, laidOffer(next, pact.Op{}, hops(7))))
}

// wantUnloaded: of these bytes there is no desk.
func wantUnloaded(t *testing.T, name string, side api.Side, p []byte, want api.Errno) {
	t.Helper()
	before := slices.Clone(p)
	if d, e := desk.Load(channel, side, rootsOf(t, 2), seeds[side], p); d != nil || e != want {
		t.Errorf("P19.3: %s, %d bytes: %d; want %d", name, len(p), e, want)
	}
	if !bytes.Equal(p, before) {
		t.Errorf("R3: %s: Load changed the bytes", name)
	}
}

// saves are what desks of the side Left, of height 2, are saved as: new ones and ones of the round 2, without and with an offer.
func saves(t *testing.T) map[string][]byte {
	t.Helper()
	p := newPair(t, 2)
	l := map[string][]byte{"new": p.at[0].Save()}
	p.at[0].Offer(plenty, lock(1, 0, 4), hops(2)...)
	l["new, offering"] = p.at[0].Save()
	p = pairAt(t, 2, 1)
	p.do(t, plenty, lock(7, 1, 4))
	l["the round 2"] = p.at[0].Save()
	p.at[0].Offer(plenty, pact.Op{Kind: pact.Done, Id: 7}, hops(7)...)
	l["the round 2, offering"] = p.at[0].Save()
	return l
}

// P19.3: bytes cut at each place, and with some too many.
func TestLoadCut(t *testing.T) {
	for name, full := range saves(t) {
		for n := range full {
			wantUnloaded(t, name+", cut short", 0, full[:n:n], api.ErrShort)
		}
		for _, more := range [][]byte{{0}, {1}, {255, 255}, full} {
			wantUnloaded(t, name+", and bytes left", 0, slices.Concat(full, more), api.ErrForm)
		}
		roomy := append(make([]byte, 0, 10000), full...)
		if d := loaded(t, 0, 2, roomy); !bytes.Equal(d.Save(), full) {
			t.Errorf("P19.3: %s, with room behind", name)
		}
	}
	wantUnloaded(t, "nil", 0, nil, api.ErrShort)
}

// P19.3: a blob of more bytes than there may be, whatever is left.
func TestLoadBlob(t *testing.T) {
	for _, n := range []uint32{4097, 5000, 1 << 16, 1 << 31, 1<<32 - 1} {
		for _, behind := range []int{0, 1, 46, 4097, 6000} {
			wantUnloaded(t, "a long blob", 0, append(binary.BigEndian.AppendUint32(nil, n), make([]byte, behind)...), api.ErrLimit)
		}
	}
	wantUnloaded(t, "a blob of the most bytes, cut short", 0, append([]byte{0, 0, 16, 0}, make([]byte, 4095)...), api.ErrShort)
	wantUnloaded(t, "a blob of the most bytes, too many for a deed", 0, append([]byte{0, 0, 16, 0}, make([]byte, 4097)...), api.ErrForm)
}

// P19.3: what is wrong with the deed's bytes, wherever they are all there; ahead of what is wrong behind them.
func TestLoadDeedBytes(t *testing.T) {
	good := saves(t)["the round 2"]
	bytesOf := good[4 : len(good)-1]
	blob := func(p []byte) []byte { return append(binary.BigEndian.AppendUint32(nil, uint32(len(p))), p...) }
	for _, c := range []struct {
		name string
		p    []byte
		want api.Errno
	}{
		{"no deed", nil, api.ErrShort},
		{"a deed cut short", bytesOf[:len(bytesOf)-1], api.ErrShort},
		{"a state cut short", bytesOf[:stateSize-1], api.ErrShort},
		{"a deed and a byte", append(slices.Clone(bytesOf), 0), api.ErrForm},
		{"9 payments", append(append(slices.Clone(bytesOf[:stateSize-1]), 9), bytesOf[stateSize:]...), api.ErrLimit},
		{"a payment by no side", func() []byte {
			p := slices.Clone(bytesOf)
			p[stateSize+8] = 2
			return p
		}(), api.ErrForm},
		{"a Way of 9", func() []byte {
			p := slices.Clone(bytesOf)
			p[stateSize+57+4] = 9
			return p
		}(), api.ErrLimit},
	} {
		for _, behind := range [][]byte{{0}, {}, {2}, {0, 0}, {1}, {1, 2, 3}} {
			wantUnloaded(t, c.name, 0, append(blob(c.p), behind...), c.want)
		}
	}
}

// P19.3: the byte behind the deed is neither 0 nor 1.
func TestLoadFlag(t *testing.T) {
	for name, full := range saves(t) {
		if strings.HasSuffix(name, "offering") {
			continue
		}
		for flag := 2; flag < 256; flag++ {
			p := slices.Clone(full)
			p[len(p)-1] = byte(flag)
			wantUnloaded(t, name+", another byte behind the deed", 0, p, api.ErrBroken)
			// Nothing stands behind such a byte.
			wantUnloaded(t, name+", another byte behind the deed, and bytes left", 0, append(p, 0), api.ErrForm)
		}
		p := slices.Clone(full)
		p[len(p)-1] = 1
		wantUnloaded(t, name+", an offer that isn't there", 0, p, api.ErrShort)
	}
	for name, full := range saves(t) {
		if !strings.HasSuffix(name, "offering") {
			continue
		}
		p := slices.Clone(full)
		p[4+binary.BigEndian.Uint32(p)] = 0
		wantUnloaded(t, name+", not told of", 0, p, api.ErrForm)
	}
}

// withDeed and withOffer are bytes that a desk would be saved as, whether it may be or not.
func withDeed(d deed.Deed) []byte { return append(sealed(d), 0) }

func withOffer(d deed.Deed, s api.State, op pact.Op, trail ...memo.Hop) []byte {
	return slices.Concat(sealed(d), []byte{1}, laidOffer(s, op, trail))
}

// P19.3: a deed that isn't right, also where bytes are left.
func TestLoadWrongDeed(t *testing.T) {
	p := pairAt(t, 2, 1)
	p.do(t, plenty, pay(4))
	good := p.at[0].Best()
	for name, turn := range map[string]func(*deed.Deed){
		"another channel":         func(d *deed.Deed) { d.Channel++ },
		"another channel's first": func(d *deed.Deed) { *d = deed.First(channel + 1) },
		"moved in the round 0":    func(d *deed.Deed) { *d = deed.First(channel); d.Moved[0] = 1 },
		"pending in the round 0":  func(d *deed.Deed) { *d = deed.First(channel); d.Conds = []api.Cond{cond(1, 0, 1)} },
		"more moved":              func(d *deed.Deed) { d.Moved[1]++ },
		"more taken":              func(d *deed.Deed) { d.Taken[0]++ },
		"another round":           func(d *deed.Deed) { d.Round++ },
		"a round without a key":   func(d *deed.Deed) { d.Round = 1 << 32 },
		"not signed by Left":      func(d *deed.Deed) { d.Sigs[0] = ring.Sig{} },
		"not signed by Right":     func(d *deed.Deed) { d.Sigs[1] = ring.Sig{} },
		"the sides swapped":       func(d *deed.Deed) { d.Sigs[0], d.Sigs[1] = d.Sigs[1], d.Sigs[0] },
		"a Way turned":            func(d *deed.Deed) { d.Sigs[1].Way[1][7] ^= 4 },
		"a piece turned":          func(d *deed.Deed) { d.Sigs[0].Open[9][7] ^= 4 },
	} {
		d := good.Twin()
		turn(&d)
		for side := range api.Side(2) {
			wantUnloaded(t, name, side, withDeed(d), api.ErrBroken)
			wantUnloaded(t, name+", and bytes left", side, append(withDeed(d), 0), api.ErrForm)
			wantUnloaded(t, name+", and cut short", side, sealed(d), api.ErrShort)
			next := d.State
			next.Round++
			wantUnloaded(t, name+", with an offer", side, withOffer(d, next, pact.Op{}), api.ErrBroken)
		}
	}
	// The roots of another ring on the other side make a deed wrong, too; the one that nobody signed is right.
	k := rootsOf(t, 2)
	k.Of[1] = k.Of[0]
	if d, e := desk.Load(channel, 0, k, seeds[0], withDeed(good)); d != nil || e != api.ErrBroken {
		t.Errorf("P19.3: a deed for another root: %d", e)
	}
	if d, e := desk.Load(channel, 0, k, seeds[0], withDeed(deed.First(channel))); e != api.OK || d.Best().Round != 0 {
		t.Errorf("P19.3: the first deed, for any root: %d", e)
	}
	if d, e := desk.Load(channel+1, 0, rootsOf(t, 2), seeds[0], withDeed(good)); d != nil || e != api.ErrBroken {
		t.Errorf("P19.3: a deed for another channel: %d", e)
	}
}

// P19.3: an offer's state of another channel, Round, turn, and of a key that there isn't.
func TestLoadWrongOffer(t *testing.T) {
	for agreed := range uint64(4) {
		p := pairAt(t, 2, agreed)
		for side := range api.Side(2) {
			best := p.at[side].Best()
			next := best.State
			next.Round++
			next.Moved[side] = 4
			isTurn := api.Side(agreed%2) == side
			good := withOffer(best, next, pay(4), hops(2)...)
			if !isTurn || agreed == 3 {
				wantUnloaded(t, "another's turn, or no key", side, good, api.ErrBroken)
				wantUnloaded(t, "another's turn, or no key, and bytes left", side, append(slices.Clone(good), 1), api.ErrForm)
			} else if d := loaded(t, side, 2, good); d.Turn() || !bytes.Equal(d.Save(), good) {
				t.Errorf("P19.3: an offer of the round %d", agreed+1)
			}
			for _, far := range []uint32{0, channel + 1, channel - 1, channel >> 8, 1 << 31} {
				x := next
				x.Channel = far
				wantUnloaded(t, "another channel's offer", side, withOffer(best, x, pay(4)), api.ErrBroken)
			}
			for round := range uint64(12) {
				x := next
				x.Round = round
				if round != agreed+1 {
					wantUnloaded(t, "an offer of another round", side, withOffer(best, x, pay(4)), api.ErrBroken)
				}
				x.Round = round << 32
				wantUnloaded(t, "an offer of a far round", side, withOffer(best, x, pay(4)), api.ErrBroken)
				x.Round = next.Round + (round+1)<<32
				wantUnloaded(t, "an offer of a round's half", side, withOffer(best, x, pay(4)), api.ErrBroken)
			}
			x := next
			x.Round = top
			wantUnloaded(t, "an offer of the last round of all", side, withOffer(best, x, pay(4)), api.ErrBroken)
		}
	}
	// A ring of one key has none for an offer; a right deed of the last key's round has none behind it.
	for tall := range 4 {
		p := pairAt(t, tall, uint64(1)<<tall-1)
		by := p.turn()
		next := p.at[by].Best().State
		next.Round++
		if d, e := desk.Load(channel, by, rootsOf(t, tall), seeds[by], withOffer(p.at[by].Best(), next, pact.Op{})); d != nil || e != api.ErrBroken {
			t.Errorf("P19.3: height %d, an offer without a key: %d", tall, e)
		}
		if d := loaded(t, by, tall, withDeed(p.at[by].Best())); !d.Turn() {
			t.Errorf("P19.3: height %d, the last round", tall)
		}
	}
}

// P19.3: what is wrong with the bytes of an offer: layer 13's and layer 18's errors, ahead of what it is of.
func TestLoadOfferBytes(t *testing.T) {
	p := pairAt(t, 2, 2)
	best := p.at[0].Best()
	next := best.State
	next.Round++
	next.Conds = []api.Cond{cond(1, 0, 2)}
	full := withOffer(best, next, lock(1, 0, 2), hops(3)...)
	loaded(t, 0, 2, full)
	at := len(sealed(best)) + 1
	opAt := at + stateSize + 57
	countAt := opAt + opSize
	for _, c := range []struct {
		name  string
		place int
		value byte
		want  api.Errno
	}{
		{"9 payments", at + 44, 9, api.ErrLimit},
		{"a payment by no side", at + stateSize + 8, 2, api.ErrForm},
		{"a wish's payment by no side", opAt + 17 + 8, 255, api.ErrForm},
		{"8 hops", countAt, 8, api.ErrLimit},
		{"4 hops", countAt, 4, api.ErrShort},
		{"2 hops", countAt, 2, api.ErrForm},
		{"one more payment", at + 44, 2, api.ErrForm},
		{"255 hops", countAt, 255, api.ErrLimit},
		{"another channel", at + 3, 9, api.ErrBroken},
		{"another round", at + 11, 5, api.ErrBroken},
	} {
		x := slices.Clone(full)
		x[c.place] = c.value
		wantUnloaded(t, "an offer of "+c.name, 0, x, c.want)
		x[at] ^= 1
		wantUnloaded(t, "an offer of "+c.name+", of another channel", 0, x, c.want)
	}
}

// P19.3: whether the offer's state came of its wish isn't asked: it is signed as it was saved.
func TestLoadAnyWish(t *testing.T) {
	best := deed.First(channel)
	next := best.State
	next.Round, next.Moved = 1, [2]uint64{9, 0}
	for _, op := range []pact.Op{pay(9), pay(8), {}, full(pact.Lock, 1), {Kind: 200, Id: 3}} {
		p := withOffer(best, next, op, hops(2)...)
		d := loaded(t, 0, 2, p)
		m, ok := d.Open()
		if !ok || !sameMemo(m, memo.Memo{Kind: memo.Offer, Channel: channel, Round: 1, Op: op, Trail: hops(2), Sig: stamp(t, 0, 2, next)}) || !bytes.Equal(d.Save(), p) {
			t.Errorf("P19.3: an offer of %v: %s", op, brief(m))
		}
		good := memo.Memo{Kind: memo.Agree, Channel: channel, Round: 1, Sig: stamp(t, 1, 2, next)}
		if e := d.Agreed(good); e != api.OK || !pact.Same(d.Best().State, next) {
			t.Errorf("P19.2: Agreed of %v: %d", op, e)
		}
	}
}

// P19.3: bytes by chance: what is loaded is saved as just these.
func TestLoadAnyBytes(t *testing.T) {
	d := rand.New(rand.NewSource(19))
	all := saves(t)
	met := map[api.Errno]int{}
	for range 4000 {
		p := slices.Clone(all[[]string{"new", "new, offering", "the round 2", "the round 2, offering"}[d.Intn(4)]])
		behind := 4 + int(binary.BigEndian.Uint32(p))
		for range d.Intn(3) {
			at := d.Intn(len(p))
			if d.Intn(2) == 0 {
				at = behind + d.Intn(len(p)-behind)
			}
			p[at] = byte(d.Intn(1 << (1 + d.Intn(8))))
		}
		switch d.Intn(8) {
		case 0:
			p = p[:d.Intn(len(p)+1)]
		case 1:
			p = append(p, make([]byte, d.Intn(40))...)
		}
		x, e := desk.Load(channel, 0, rootsOf(t, 2), seeds[0], p)
		met[e]++
		if (e == api.OK) != (x != nil) {
			t.Fatalf("R2: %x: %d", p, e)
		}
		if e == api.OK && (!bytes.Equal(x.Save(), p) || !rootsOf(t, 2).Whole(x.Best(), channel)) {
			t.Fatalf("P19.3: %x is loaded, and saved as %x", p, x.Save())
		}
	}
	for _, e := range []api.Errno{api.OK, api.ErrShort, api.ErrForm, api.ErrLimit, api.ErrBroken} {
		if met[e] < 20 {
			t.Errorf("the error %d was met %d times", e, met[e])
		}
	}
}
