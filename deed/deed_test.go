package deed_test

import (
	"bytes"
	"math"
	"math/rand"
	"slices"
	"testing"

	"tollhouse/api"
	"tollhouse/deed"
	"tollhouse/lamp"
	"tollhouse/mill"
	"tollhouse/octet"
	"tollhouse/pact"
	"tollhouse/ring"
)

func ringOf(t *testing.T, first byte, tall int) *ring.Ring {
	t.Helper()
	r, e := ring.New(ramp(first), tall)
	if e != api.OK || r == nil {
		t.Fatalf("height %d: %d", tall, e)
	}
	return r
}

// rings are those of Left and Right, of a height.
func rings(t *testing.T, tall int) ([2]*ring.Ring, deed.Roots) {
	t.Helper()
	l := [2]*ring.Ring{ringOf(t, 1, tall), ringOf(t, 101, tall)}
	return l, deed.Roots{Of: [2]api.Digest{l[0].Root(), l[1].Root()}, Tall: tall}
}

// signed is a state with the signatures of both rings.
func signed(t *testing.T, l [2]*ring.Ring, s api.State) deed.Deed {
	t.Helper()
	d := deed.Deed{State: s}
	for side, r := range l {
		sig, e := deed.Sign(r, s)
		if e != api.OK {
			t.Fatalf("P13.2: Sign of the round %d: %d", s.Round, e)
		}
		d.Sigs[side] = sig
	}
	return d
}

func sameSig(a, b ring.Sig) bool {
	return a.Sig == b.Sig && a.Key == b.Key && slices.Equal(a.Way, b.Way)
}

func sameDeed(a, b deed.Deed) bool {
	return same(a.State, b.State) && sameSig(a.Sigs[0], b.Sigs[0]) && sameSig(a.Sigs[1], b.Sigs[1])
}

// twin is a deed alike, not by the package's own call.
func twin(d deed.Deed) deed.Deed {
	d.Conds = append([]api.Cond{}, d.Conds...)
	for side := range d.Sigs {
		d.Sigs[side].Way = append([]api.Digest{}, d.Sigs[side].Way...)
	}
	return d
}

// taken are the keys that are, of the first ones and one more.
func taken(r *ring.Ring) []uint32 {
	var l []uint32
	for key := range uint32(api.MaxKeys + 1) {
		if r.Taken(key) {
			l = append(l, key)
		}
	}
	return l
}

// P13.2: a state is signed by the key of its round; Again signs it just so.
func TestSign(t *testing.T) {
	for _, tall := range []int{0, 1, 3, 8} {
		r, other := ringOf(t, 1, tall), ringOf(t, 1, tall)
		for _, round := range []uint64{0, 1, 2, 7, 8, 199, 200, 201, 255} {
			if round>>tall != 0 {
				continue
			}
			s := state(round, some(int(round%9))...)
			before := taken(r)
			got, e := deed.Sign(r, s)
			want, f := other.Sign(uint32(round), sumOf(s))
			if e != api.OK || f != api.OK || !sameSig(got, want) {
				t.Errorf("P13.2: height %d, round %d: %d, or another signature", tall, round, e)
			}
			if l := taken(r); !slices.Equal(l, append(before, uint32(round))) {
				t.Errorf("P13.2: height %d, round %d: taken: %v", tall, round, l)
			}
			if again, e := deed.Again(r, s); e != api.OK || !sameSig(again, want) {
				t.Errorf("P13.2: height %d, round %d: Again: %d, or another signature", tall, round, e)
			}
			if !got.Right(r.Root(), tall, uint32(round), sumOf(s)) {
				t.Errorf("P13.2: height %d, round %d isn't right", tall, round)
			}
		}
	}
}

// P13.2: rounds beyond the ring, those too whose lowest bytes are a key's number.
func TestSignBeyond(t *testing.T) {
	for tall := range 9 {
		r := ringOf(t, 1, tall)
		many := uint64(1) << tall
		for range 2 {
			before := taken(r)
			for _, round := range []uint64{many, many + 1, 256, 1 << 16, 1<<31 - 1, 1 << 31, 1<<31 + 1, 1<<32 - 1, 1 << 32, 1<<32 + many - 1, 1 << 40, 1 << 63, 1<<63 + many - 1, top} {
				sig, e := deed.Sign(r, state(round))
				again, f := deed.Again(r, state(round))
				if e != api.ErrArg || f != api.ErrArg || !sameSig(sig, ring.Sig{}) || !sameSig(again, ring.Sig{}) {
					t.Errorf("P13.2: height %d, round %d: %d, %d", tall, round, e, f)
				}
			}
			if l := taken(r); !slices.Equal(l, before) {
				t.Errorf("R2: height %d: taken: %v, were %v", tall, l, before)
			}
			for key := range uint32(many) {
				r.Spend(key)
			}
		}
	}
}

// P13.2: a round is signed once, for one state as for two; Again is of any state of a round that was signed.
func TestSignTwice(t *testing.T) {
	r := ringOf(t, 1, 3)
	s, other := state(5, some(2)...), state(5, some(3)...)
	if sig, e := deed.Again(r, s); e != api.ErrNone || !sameSig(sig, ring.Sig{}) {
		t.Errorf("P13.2: Again ahead of Sign: %d", e)
	}
	first, e := deed.Sign(r, s)
	if e != api.OK {
		t.Fatalf("P13.2: Sign: %d", e)
	}
	for _, x := range []api.State{s, other} {
		if sig, e := deed.Sign(r, x); e != api.ErrSpent || !sameSig(sig, ring.Sig{}) {
			t.Errorf("P13.2: the round 5 is signed twice: %d", e)
		}
	}
	if again, e := deed.Again(r, s); e != api.OK || !sameSig(again, first) {
		t.Errorf("P13.2: Again: %d, or another signature", e)
	}
	if again, e := deed.Again(r, other); e != api.OK || !again.Right(r.Root(), 3, 5, sumOf(other)) || sameSig(again, first) {
		t.Errorf("P13.2: Again of another state: %d, or not right", e)
	}
	for _, round := range []uint64{0, 4, 6, 7} {
		if sig, e := deed.Again(r, state(round)); e != api.ErrNone || !sameSig(sig, ring.Sig{}) {
			t.Errorf("P13.2: Again of the round %d: %d", round, e)
		}
	}
	r.Spend(6)
	if sig, e := deed.Sign(r, state(6)); e != api.ErrSpent || !sameSig(sig, ring.Sig{}) {
		t.Errorf("P13.2: Sign of a round that was spent: %d", e)
	}
	if again, e := deed.Again(r, state(6)); e != api.OK || !again.Right(r.Root(), 3, 6, sumOf(state(6))) {
		t.Errorf("P13.2: Again of a round that was spent: %d", e)
	}
	if l := taken(r); !slices.Equal(l, []uint32{5, 6}) {
		t.Errorf("P13.2: taken: %v", l)
	}
}

// P13.2, R1, R2: a nil ring.
func TestNilRing(t *testing.T) {
	for _, round := range []uint64{0, 1, 255, 256, 1 << 32, top} {
		sig, e := deed.Sign(nil, state(round))
		again, f := deed.Again(nil, state(round))
		if e != api.ErrNil || f != api.ErrNil || !sameSig(sig, ring.Sig{}) || !sameSig(again, ring.Sig{}) {
			t.Errorf("P13.2: a nil ring, round %d: %d, %d", round, e, f)
		}
	}
	deed.Sign(&ring.Ring{}, state(0))
	deed.Again(&ring.Ring{}, state(0))
}

// P13.2: a signature is right for its own side, and for no side that there isn't.
func TestRight(t *testing.T) {
	l, k := rings(t, 3)
	s := state(5, some(3)...)
	d := signed(t, l, s)
	for side := range api.Side(2) {
		if !k.Right(side, s, d.Sigs[side]) || k.Right(1-side, s, d.Sigs[side]) {
			t.Errorf("P13.2: the signature of %d", side)
		}
		for _, far := range []api.Side{-1, 2, 3, 256, 257, 1 << 32, 1<<32 + 1, math.MinInt, math.MaxInt} {
			if k.Right(far, s, d.Sigs[side]) || (deed.Roots{}).Right(far, s, ring.Sig{}) {
				t.Errorf("P13.2: right for the side %d", far)
			}
		}
		if (deed.Roots{}).Right(side, s, d.Sigs[side]) || k.Right(side, s, ring.Sig{}) || (deed.Roots{}).Right(side, pact.New(3), ring.Sig{}) {
			t.Error("P13.2: right without roots, or without a signature")
		}
	}
	// Of one root for both, either signature is either side's.
	both := deed.Roots{Of: [2]api.Digest{l[1].Root(), l[1].Root()}, Tall: 3}
	if !both.Right(api.Left, s, d.Sigs[1]) || !both.Right(api.Right, s, d.Sigs[1]) || both.Right(api.Left, s, d.Sigs[0]) {
		t.Error("P13.2: right for one root for both")
	}
}

// P13.2: a signature is right for the key of the round alone, and the height.
func TestRightKey(t *testing.T) {
	l, k := rings(t, 3)
	s := state(5, some(1)...)
	for key := range uint32(8) {
		sig, e := l[0].Sign(key, sumOf(s))
		if e != api.OK || k.Right(api.Left, s, sig) != (key == 5) {
			t.Errorf("P13.2: the round 5, signed by the key %d: %v", key, key != 5)
		}
		sig.Key = 5
		if key != 5 && k.Right(api.Left, s, sig) {
			t.Errorf("P13.2: the round 5, signed by the key %d as if by 5", key)
		}
	}
	sig, _ := l[0].Again(5, sumOf(s))
	for _, tall := range []int{2, 4, 0, -1, -3, 8, 64, math.MinInt, math.MaxInt} {
		if (deed.Roots{Of: k.Of, Tall: tall}).Right(api.Left, s, sig) {
			t.Errorf("P13.2: right for the height %d", tall)
		}
	}
	for _, round := range []uint64{4, 6, 13, 1<<31 + 5, 1<<32 + 5, 1<<63 + 5} {
		x := s
		x.Round = round
		if again, e := l[0].Again(5, sumOf(x)); e != api.OK || k.Right(api.Left, x, again) {
			t.Errorf("P13.2: the round %d, signed by the key 5", round)
		}
	}
}

// far is a signature of a key of a ring as tall as a key's number has bits, and its root: such rings can't be made, but are right.
func far(s api.State, key uint32) (ring.Sig, api.Digest) {
	sig := ring.Sig{Sig: lamp.New(ramp(1), key).Sign(sumOf(s)), Key: key}
	root := lamp.New(ramp(1), key).Leaf()
	for row := range 32 {
		beside := api.Digest(ramp(byte(row)))
		sig.Way = append(sig.Way, beside)
		if key>>row&1 == 0 {
			root = mill.For(mill.Node, root[:], beside[:])
		} else {
			root = mill.For(mill.Node, beside[:], root[:])
		}
	}
	return sig, root
}

// P13.2: of rounds above 2^31 the key is 2^31.
func TestRightFarRounds(t *testing.T) {
	for _, round := range []uint64{0, 1, 256, 1<<31 - 1, 1 << 31, 1<<31 + 1, 1<<32 - 1, 1 << 32, 1<<32 + 1, 1<<32 + 1<<31, 1 << 63, top} {
		want := uint32(1 << 31)
		if round < 1<<31 {
			want = uint32(round)
		}
		s := state(round, some(1)...)
		for _, key := range []uint32{0, 1, 256, 1<<31 - 1, 1 << 31, 1<<31 + 1, math.MaxUint32} {
			sig, root := far(s, key)
			k := deed.Roots{Of: [2]api.Digest{root, root}, Tall: 32}
			if k.Right(api.Left, s, sig) != (key == want) {
				t.Errorf("P13.2: the round %d, signed by the key %d: right %v", round, key, key != want)
			}
			if k.Whole(deed.Deed{State: s, Sigs: [2]ring.Sig{sig, sig}}, s.Channel) != (key == want) {
				t.Errorf("P13.2: a deed of the round %d, signed by the key %d: right %v", round, key, key != want)
			}
		}
	}
}

// P13.2: a right deed.
func TestWhole(t *testing.T) {
	l, k := rings(t, 8)
	for _, round := range []uint64{1, 2, 8, 199, 200, 201, 255} {
		d := signed(t, l, state(round, some(int(round%9))...))
		if !k.Whole(d, 0x01020304) {
			t.Errorf("P13.2: the deed of the round %d isn't right", round)
		}
		for _, channel := range []uint32{0, 3, 0x01020305, 0x02020304, 0x0304, math.MaxUint32} {
			if k.Whole(d, channel) {
				t.Errorf("P13.2: the deed of the round %d is right for the channel %d", round, channel)
			}
		}
	}
	// Whether the state may be isn't asked: more payments than there may be, and one by no side.
	if !k.Whole(signed(t, l, state(3, append(some(20), cond(1, 7, 0))...)), 0x01020304) {
		t.Error("P13.2: a deed of 21 payments isn't right")
	}
}

// P13.2, P13.4: a right deed with something turned.
func TestWholeTurned(t *testing.T) {
	l, k := rings(t, 8)
	d := signed(t, l, writtenOut())
	if !k.Whole(d, d.Channel) {
		t.Fatal("P13.2: the deed isn't right")
	}
	for name, turn := range turnings() {
		x := twin(d)
		turn(&x.State)
		if k.Whole(x, d.Channel) || k.Whole(x, x.Channel) {
			t.Errorf("P13.4: right in spite of %s", name)
		}
	}
	turned := func(name string, turn func(*deed.Deed)) {
		x := twin(d)
		turn(&x)
		if k.Whole(x, d.Channel) {
			t.Errorf("P13.2: right in spite of %s", name)
		}
	}
	for side := range 2 {
		turned("no signature", func(x *deed.Deed) { x.Sigs[side] = ring.Sig{} })
		turned("the other side's signature", func(x *deed.Deed) { x.Sigs[side] = x.Sigs[1-side] })
		turned("another key", func(x *deed.Deed) { x.Sigs[side].Key ^= 1 })
		turned("no Way", func(x *deed.Deed) { x.Sigs[side].Way = nil })
		turned("a Way of one less", func(x *deed.Deed) { x.Sigs[side].Way = x.Sigs[side].Way[:7] })
		turned("a Way of one more", func(x *deed.Deed) { x.Sigs[side].Way = append(x.Sigs[side].Way, api.Digest{}) })
		for row := range 8 {
			turned("a Way", func(x *deed.Deed) { x.Sigs[side].Way[row][row*4] ^= 1 })
		}
		for place := range lamp.Bits {
			turned("a piece shown", func(x *deed.Deed) { x.Sigs[side].Open[place][place%16] ^= 1 })
			turned("a piece not shown", func(x *deed.Deed) { x.Sigs[side].Other[place][place%16] ^= 1 })
		}
		for at := range 32 {
			roots := k
			roots.Of[side][at] ^= 1
			if roots.Whole(d, d.Channel) {
				t.Errorf("P13.2: right for a root turned at %d", at)
			}
		}
	}
	turned("sides", func(x *deed.Deed) { x.Sigs[0], x.Sigs[1] = x.Sigs[1], x.Sigs[0] })
	for _, tall := range []int{0, 7, 9, -8, math.MinInt, math.MaxInt} {
		if (deed.Roots{Of: k.Of, Tall: tall}).Whole(d, d.Channel) {
			t.Errorf("P13.2: right for the height %d", tall)
		}
	}
	if (deed.Roots{Of: [2]api.Digest{k.Of[1], k.Of[0]}, Tall: 8}).Whole(d, d.Channel) {
		t.Error("P13.2: right for the roots of other sides")
	}
}

// P13.2: of the round 0 a new state needs no signatures, whatever the roots; anything else needs both.
func TestWholeRoundZero(t *testing.T) {
	l, k := rings(t, 3)
	garbage := signed(t, l, state(5)).Sigs
	for _, channel := range []uint32{0, 1, 3, 1 << 31, math.MaxUint32} {
		for _, roots := range []deed.Roots{{}, k, {Tall: -1}, {Of: k.Of, Tall: math.MinInt}, {Tall: math.MaxInt}} {
			for _, sigs := range [][2]ring.Sig{{}, garbage} {
				d := deed.Deed{State: pact.New(channel), Sigs: sigs}
				if !roots.Whole(d, channel) || roots.Whole(d, channel+1) || roots.Whole(d, channel-1) {
					t.Errorf("P13.2: of the round 0, channel %d, height %d", channel, roots.Tall)
				}
				d.Conds = []api.Cond{}
				if !roots.Whole(d, channel) {
					t.Error("R4: of the round 0, without payments")
				}
			}
		}
	}
	for name, turn := range map[string]func(*api.State){
		"Moved of Left":  func(s *api.State) { s.Moved[0] = 1 },
		"Moved of Right": func(s *api.State) { s.Moved[1] = top },
		"Taken of Left":  func(s *api.State) { s.Taken[0] = 1 << 32 },
		"Taken of Right": func(s *api.State) { s.Taken[1] = 1 },
		"a payment":      func(s *api.State) { s.Conds = []api.Cond{cond(1, 0, 1)} },
		"a zero payment": func(s *api.State) { s.Conds = []api.Cond{{}} },
		"the round 1":    func(s *api.State) { s.Round = 1 },
		"the last round": func(s *api.State) { s.Round = top },
	} {
		d := deed.Deed{State: pact.New(3)}
		turn(&d.State)
		for _, sigs := range [][2]ring.Sig{{}, garbage} {
			d.Sigs = sigs
			if k.Whole(d, 3) || (deed.Roots{}).Whole(d, 3) {
				t.Errorf("P13.2: of the round 0, right in spite of %s", name)
			}
		}
	}
	// By the words 'or both signatures are right' they make a deed of the round 0 right, too.
	s := pact.New(3)
	s.Moved[0] = 1
	d := signed(t, l, s)
	if !k.Whole(d, 3) {
		t.Error("P13.4: a state of the round 0 that both signed isn't right")
	}
	d.Sigs[1] = ring.Sig{}
	if k.Whole(d, 3) {
		t.Error("P13.2: a state of the round 0 that one side signed is right")
	}
}

// P13.3: the chapter's example.
func TestFirst(t *testing.T) {
	for _, channel := range []uint32{0, 1, 3, 1 << 31, math.MaxUint32} {
		d := deed.First(channel)
		if !sameDeed(d, deed.Deed{State: api.State{Channel: channel}}) {
			t.Errorf("P13.3: First(%d): %v", channel, d)
		}
		if p := d.Bytes(); len(p) != 45 || !bytes.Equal(p, laidState(pact.New(channel))) {
			t.Errorf("P13.3: First(%d): %d bytes: %x", channel, len(p), p)
		}
		_, k := rings(t, 1)
		if !k.Whole(d, channel) || !(deed.Roots{}).Whole(d, channel) {
			t.Errorf("P13.2: First(%d) isn't right", channel)
		}
	}
}

// P13.3, R3: a twin is alike, and neither turns with the other one.
func TestTwin(t *testing.T) {
	l, k := rings(t, 3)
	want := signed(t, l, state(5, some(4)...))
	for _, d := range []deed.Deed{{}, deed.First(3), want, {State: want.State}, {Sigs: want.Sigs}} {
		if !sameDeed(d.Twin(), d) {
			t.Errorf("P13.3: a twin isn't alike: %v", d.Twin())
		}
	}
	wipe := func(d deed.Deed) {
		clear(d.Conds[:cap(d.Conds)])
		for _, sig := range d.Sigs {
			clear(sig.Way[:cap(sig.Way)])
		}
	}
	d := twin(want)
	a, b := d.Twin(), d.Twin()
	wipe(a)
	if !sameDeed(d, want) || !sameDeed(b, want) {
		t.Error("R3: a deed, or another twin, was turned with a twin")
	}
	wipe(d)
	if !sameDeed(b, want) || !k.Whole(b, b.Channel) {
		t.Error("R3: a twin was turned with its deed")
	}
	b.Channel, b.Round, b.Moved, b.Taken = 1, 2, [2]uint64{3, 4}, [2]uint64{5, 6}
	b.Sigs[0].Open[0][0]++
	if sameDeed(b, want) || want.Channel == 1 || want.Round == 2 {
		t.Error("R3: a deed was turned with its twin's fields")
	}
	// No two lists of one twin share any, also if those of the deed do.
	shared := want
	shared.Sigs[1] = shared.Sigs[0]
	x := shared.Twin()
	clear(x.Sigs[0].Way)
	if !sameSig(x.Sigs[1], want.Sigs[0]) {
		t.Error("R3: a twin's two Ways share memory")
	}
	room := some(4)
	d = deed.Deed{State: state(5, room[:2]...)}
	x = d.Twin()
	_ = append(x.Conds, cond(9, 1, 9))
	if !slices.Equal(room, some(4)) {
		t.Error("R3: what was laid behind a twin's payments is in the deed's room")
	}
}

// laidDeed are a deed's bytes by the chapter's words and layer 5's.
func laidDeed(d deed.Deed) []byte {
	p := laidState(d.State)
	if d.Round != 0 {
		p = append(p, d.Sigs[0].Lay(nil)...)
		p = append(p, d.Sigs[1].Lay(nil)...)
	}
	return p
}

// P13.3, P13.4: deeds as bytes, and the deeds of bytes.
func TestBytesRead(t *testing.T) {
	for _, tall := range []int{0, 1, 3, 8} {
		l, k := rings(t, tall)
		for _, round := range []uint64{0, 1, 2, 7, 199, 200, 201} {
			if round>>tall != 0 {
				continue
			}
			d := signed(t, l, state(round, some(int(round)%9)...))
			p := d.Bytes()
			if !bytes.Equal(p, laidDeed(d)) || !bytes.Equal(d.Bytes(), p) {
				t.Errorf("P13.3: height %d, round %d: %d bytes", tall, round, len(p))
			}
			if round == 0 {
				d.Sigs = [2]ring.Sig{}
			}
			keep := bytes.Clone(p)
			got, e := deed.Read(p)
			if e != api.OK || !sameDeed(got, d) || k.Whole(got, d.Channel) != (round > 0) {
				t.Errorf("P13.3: height %d, round %d: Read: %d, or another deed", tall, round, e)
			}
			if !bytes.Equal(p, keep) {
				t.Error("R3: Read changed the bytes")
			}
			clear(p)
			if !sameDeed(got, d) || !bytes.Equal(got.Bytes(), keep) {
				t.Error("R3: Read kept the bytes")
			}
		}
	}
	for _, many := range []int{0, 1, 8, 9, 256, 300} {
		d := deed.Deed{State: state(9, some(many)...)}
		if !bytes.Equal(d.Bytes(), laidDeed(d)) {
			t.Errorf("P13.3: bytes of %d payments", many)
		}
	}
	// The round alone says whether there are signatures, also if its lowest bytes are 0.
	for _, round := range []uint64{1 << 8, 1 << 32, 1 << 63} {
		d := deed.Deed{State: api.State{Round: round}}
		if got, e := deed.Read(d.Bytes()); e != api.OK || !sameDeed(got, d) || len(d.Bytes()) != stateSize+2*1029 {
			t.Errorf("P13.3: the round %d: %d bytes, %d", round, len(d.Bytes()), e)
		}
	}
}

// wantUnread: these bytes are no deed.
func wantUnread(t *testing.T, name string, p []byte, want api.Errno) {
	t.Helper()
	if got, e := deed.Read(p); e != want || !sameDeed(got, deed.Deed{}) {
		t.Errorf("P13.3: %s, %d bytes: %v, %d; want %d", name, len(p), got.State, e, want)
	}
}

// P13.3: bytes cut short at each length, and with some too many.
func TestReadShort(t *testing.T) {
	l, _ := rings(t, 3)
	for _, d := range []deed.Deed{deed.First(3), {State: state(0, some(2)...)}, signed(t, l, state(5, some(2)...)), signed(t, l, state(7))} {
		full := d.Bytes()
		for n := range full {
			wantUnread(t, "cut short", full[:n], api.ErrShort)
		}
		for _, more := range [][]byte{{0}, {1}, make([]byte, 57), full} {
			wantUnread(t, "bytes are left", append(slices.Clone(full), more...), api.ErrForm)
		}
		// Room behind the bytes isn't theirs.
		roomy := append(make([]byte, 0, 10000), full...)
		if got, e := deed.Read(roomy); e != api.OK || !sameDeed(got, d) {
			t.Errorf("P13.3: with room behind: %d", e)
		}
	}
	wantUnread(t, "nil", nil, api.ErrShort)
	wantUnread(t, "no bytes", []byte{}, api.ErrShort)
	zero := signed(t, l, state(0))
	wantUnread(t, "signatures of the round 0", append(zero.Bytes(), zero.Sigs[0].Lay(nil)...), api.ErrForm)
}

// P13.3: too many payments, payments by no side, Ways of more than 8.
func TestReadWrong(t *testing.T) {
	l, _ := rings(t, 3)
	d := signed(t, l, state(5, some(3)...))
	for _, many := range []int{9, 255} {
		x := d
		x.Conds = some(many)
		wantUnread(t, "too many payments", x.Bytes(), api.ErrLimit)
		wantUnread(t, "too many payments, and bytes left", append(x.Bytes(), 0), api.ErrLimit)
		wantUnread(t, "too many payments, and cut short", x.Bytes()[:stateSize], api.ErrLimit)
	}
	for place := range 3 {
		full := d.Bytes()
		full[stateSize+place*condSize+byAt] = 2
		wantUnread(t, "a payment by no side", full, api.ErrForm)
		wantUnread(t, "a payment by no side, and cut short behind it", full[:stateSize+(place+1)*condSize], api.ErrForm)
		wantUnread(t, "a payment by no side, and cut short in it", full[:stateSize+(place+1)*condSize-1], api.ErrShort)
	}
	for side := range 2 {
		for _, many := range []int{9, 255} {
			x := twin(d)
			for len(x.Sigs[side].Way) < many {
				x.Sigs[side].Way = append(x.Sigs[side].Way, api.Digest{})
			}
			wantUnread(t, "a Way of more than 8", x.Bytes(), api.ErrLimit)
			wantUnread(t, "a Way of more than 8, and bytes left", append(x.Bytes(), 0), api.ErrLimit)
		}
		x := twin(d)
		for len(x.Sigs[side].Way) < 8 {
			x.Sigs[side].Way = append(x.Sigs[side].Way, ramp(3))
		}
		if got, e := deed.Read(x.Bytes()); e != api.OK || !sameDeed(got, x) {
			t.Errorf("P13.3: a Way of 8: %d", e)
		}
	}
	x := d
	x.Conds = some(9)
	x.Conds[0].By = 2
	wantUnread(t, "too many payments, the first one by no side", x.Bytes(), api.ErrLimit)
	x = d
	x.Conds = []api.Cond{cond(1, 3, 1)}
	x.Sigs[0].Way = make([]api.Digest, 9)
	wantUnread(t, "a payment by no side ahead of a Way of 9", x.Bytes(), api.ErrForm)
}

// R3: a deed's bytes are new memory, and nothing of the deed is changed.
func TestBytesNewMemory(t *testing.T) {
	l, _ := rings(t, 3)
	d := signed(t, l, state(5, some(3)...))
	want := twin(d)
	a, b := d.Bytes(), d.Bytes()
	clear(a[:cap(a)])
	if !sameDeed(d, want) || !bytes.Equal(b, laidDeed(want)) {
		t.Error("R3: a deed, or its bytes, were turned with other bytes of it")
	}
	x, _ := deed.Read(b)
	y, _ := deed.Read(b)
	clear(x.Conds[:cap(x.Conds)])
	clear(x.Sigs[0].Way[:cap(x.Sigs[0].Way)])
	if !sameDeed(y, want) || !sameSig(x.Sigs[1], want.Sigs[1]) {
		t.Error("R3: deeds of bytes share memory")
	}
}

// P13.4: what both sides signed is a right deed, also off its bytes; with another state in it it isn't.
func TestSignedIsRight(t *testing.T) {
	l, k := rings(t, 8)
	dice := rand.New(rand.NewSource(4))
	var last deed.Deed
	for round := uint64(1); round <= 255; round++ {
		s := api.State{Channel: 3, Round: round, Moved: [2]uint64{dice.Uint64(), 5}, Taken: [2]uint64{7, dice.Uint64()}, Conds: some(dice.Intn(9))}
		d := signed(t, l, s)
		if !k.Whole(d, 3) {
			t.Errorf("P13.4: the round %d isn't right", round)
		}
		read, e := deed.Read(d.Bytes())
		if e != api.OK || !k.Whole(read, 3) {
			t.Errorf("P13.4: the round %d, read: %d, or not right", round, e)
		}
		for _, mixed := range []deed.Deed{
			{State: s, Sigs: last.Sigs}, {State: last.State, Sigs: d.Sigs},
			{State: s, Sigs: [2]ring.Sig{d.Sigs[0], last.Sigs[1]}}, {State: s, Sigs: [2]ring.Sig{last.Sigs[0], d.Sigs[1]}},
		} {
			if k.Whole(mixed, 3) {
				t.Errorf("P13.4: the round %d with what is of the one before is right", round)
			}
		}
		other := s
		other.Moved[dice.Intn(2)]++
		if k.Whole(deed.Deed{State: other, Sigs: d.Sigs}, 3) {
			t.Errorf("P13.4: the round %d with another state is right", round)
		}
		last = d
	}
}

// P13.4: steps of layer 12, signed by both in turn.
func TestChannel(t *testing.T) {
	l, k := rings(t, 8)
	put := [2]uint64{1000, 1000}
	d := deed.First(3)
	for round := range uint64(200) {
		ops := []pact.Op{{Kind: pact.Lock, Cond: cond(round, api.Side(round%2), 2)}, {Kind: pact.Pay, Amount: 1}, {Kind: pact.Done, Id: round - 2}, {}}
		s, e := pact.Next(d.State, put, api.Side(round%2), ops[round%4])
		if e != api.OK {
			t.Fatalf("the round %d: %d", round+1, e)
		}
		d = signed(t, l, s)
		in := octet.Of(deed.Lay(nil, s))
		if x := deed.Take(in); !pact.Same(x, s) || in.End() != api.OK || !k.Whole(d, 3) || !k.Whole(d.Twin(), 3) {
			t.Errorf("P13.4: the round %d", s.Round)
		}
	}
	if d.Round != 200 {
		t.Errorf("the last round is %d", d.Round)
	}
}
