package memo_test

import (
	"math"
	"slices"
	"testing"

	"tollhouse/api"
	"tollhouse/lamp"
	"tollhouse/memo"
	"tollhouse/pact"
	"tollhouse/ring"
)

const top = math.MaxUint64

// farKinds are numbers of no kind of a memo, some with a kind's lowest byte.
var farKinds = []int{-1, -2, 3, 4, 5, 127, 128, 255, 256, 257, 258, 1 << 16, 1<<32 + 1, -256, -255, -254, math.MinInt, math.MinInt + 1, math.MaxInt}

// farOps are numbers of no kind of a wish.
var farOps = []int{-1, -2, 6, 7, 127, 128, 255, 256, 257, 261, 1 << 16, 1<<32 + 2, -256, -251, math.MinInt, math.MaxInt}

// farSides are no sides.
var farSides = []api.Side{-1, 2, 3, 128, 255, 256, 257, 1 << 32, 1<<32 + 1, -256, math.MinInt, math.MaxInt}

// ramp are 32 bytes that count up from first.
func ramp(first byte) [32]byte {
	var p [32]byte
	for i := range p {
		p[i] = first + byte(i)
	}
	return p
}

// sums are so many, no two alike.
func sums(many int) []api.Digest {
	var l []api.Digest
	for i := range many {
		d := ramp(byte(i))
		d[0] = byte(i >> 8)
		l = append(l, d)
	}
	return l
}

// signature has a Way of so many, and nothing in it is zero; it needn't be right for anything.
func signature(many int) ring.Sig {
	s := ring.Sig{Key: 0x01020304, Way: sums(many)}
	for place := range lamp.Bits {
		for i := range s.Open[place] {
			s.Open[place][i] = byte(1 + (place*16+i)%250)
			s.Other[place][i] = byte(251 - (place*16+i)%250)
		}
	}
	return s
}

// trail is of so many hops, no two alike.
func trail(many int) []memo.Hop {
	var l []memo.Hop
	for i := range many {
		l = append(l, memo.Hop{Channel: uint32(i+1) << 24, Amount: top - uint64(i), Id: uint64(i + 1)})
	}
	return l
}

func wish() pact.Op {
	return pact.Op{Kind: pact.Lock, Amount: 3, Id: 4, Cond: api.Cond{Id: 5, By: api.Right, Amount: 6, Hash: ramp(7), Expiry: 8}}
}

func ask() memo.Memo { return memo.Memo{Kind: memo.Ask, Channel: 5} }

func offer(hops, way int) memo.Memo {
	return memo.Memo{Kind: memo.Offer, Channel: 0x01020304, Round: 0x1112131415161718, Op: wish(), Trail: trail(hops), Sig: signature(way)}
}

func agree(way int) memo.Memo {
	return memo.Memo{Kind: memo.Agree, Channel: 0x01020304, Round: 0x1112131415161718, Sig: signature(way)}
}

func sameSig(a, b ring.Sig) bool {
	return a.Sig == b.Sig && a.Key == b.Key && slices.Equal(a.Way, b.Way)
}

func same(a, b memo.Memo) bool {
	return a.Kind == b.Kind && a.Channel == b.Channel && a.Round == b.Round && a.Op == b.Op && slices.Equal(a.Trail, b.Trail) && sameSig(a.Sig, b.Sig)
}

// copied is a memo alike, not by the package's own call.
func copied(m memo.Memo) memo.Memo {
	m.Trail = append([]memo.Hop{}, m.Trail...)
	m.Sig.Way = append([]api.Digest{}, m.Sig.Way...)
	return m
}

// wantRight asks of Right, and also that a memo that may not be has no bytes.
func wantRight(t *testing.T, name string, m memo.Memo, want bool) {
	t.Helper()
	before := copied(m)
	if got := m.Right(); got != want {
		t.Errorf("P18.1: %s: Right: %t", name, got)
	}
	e := api.OK
	if !want {
		e = api.ErrArg
	}
	if p, got := m.Bytes(); got != e || (len(p) > 0) != want {
		t.Errorf("P18.2: %s: Bytes: %d of them, %d", name, len(p), got)
	}
	if !same(m, before) {
		t.Errorf("R3: %s: the memo was changed", name)
	}
}

// P18.1: the kinds' numbers.
func TestKinds(t *testing.T) {
	if memo.Ask != 0 || memo.Offer != 1 || memo.Agree != 2 {
		t.Errorf("P18.1: %d, %d, %d", memo.Ask, memo.Offer, memo.Agree)
	}
}

// P18.1: memos that may be, of each kind.
func TestRight(t *testing.T) {
	for _, channel := range []uint32{0, 1, 5, math.MaxUint32} {
		wantRight(t, "an Ask", memo.Memo{Channel: channel}, true)
		for _, round := range []uint64{0, 1, 200, 201, 1 << 32, top} {
			for way := range 9 {
				wantRight(t, "an Agree", memo.Memo{Kind: memo.Agree, Channel: channel, Round: round, Sig: signature(way)}, true)
				wantRight(t, "an Offer", memo.Memo{Kind: memo.Offer, Channel: channel, Round: round, Sig: signature(way)}, true)
			}
		}
	}
	wantRight(t, "an Offer without anything", memo.Memo{Kind: memo.Offer}, true)
	wantRight(t, "an Agree without anything", memo.Memo{Kind: memo.Agree}, true)
	// What is asked of its signature is its Way's length alone.
	wantRight(t, "an Agree with a Way and no more", memo.Memo{Kind: memo.Agree, Sig: ring.Sig{Way: sums(8)}}, true)
}

// P18.1: lists without anything are none (R4).
func TestEmptyLists(t *testing.T) {
	for kind := range 3 {
		m := memo.Memo{Kind: kind, Trail: []memo.Hop{}, Sig: ring.Sig{Way: []api.Digest{}}}
		wantRight(t, "empty lists", m, true)
		m.Trail, m.Sig.Way = trail(3)[:0], sums(3)[:0]
		wantRight(t, "empty lists with room", m, true)
	}
}

// P18.1: there are three kinds.
func TestNoSuchKind(t *testing.T) {
	for _, kind := range farKinds {
		for _, m := range []memo.Memo{ask(), offer(2, 3), agree(3), {}} {
			m.Kind = kind
			wantRight(t, "no such kind", m, false)
		}
	}
}

// field sets one field of a memo to something else than zero.
type field struct {
	name string
	set  func(*memo.Memo)
}

var roundFields = []field{
	{"Round, lowest", func(m *memo.Memo) { m.Round = 1 }},
	{"Round, highest", func(m *memo.Memo) { m.Round = 1 << 63 }},
}

var wishFields = []field{
	{"Op.Kind", func(m *memo.Memo) { m.Op.Kind = pact.Pay }},
	{"Op.Kind, none", func(m *memo.Memo) { m.Op.Kind = 256 }},
	{"Op.Amount", func(m *memo.Memo) { m.Op.Amount = 1 }},
	{"Op.Amount, highest", func(m *memo.Memo) { m.Op.Amount = 1 << 63 }},
	{"Op.Id", func(m *memo.Memo) { m.Op.Id = 1 }},
	{"Op.Id, highest", func(m *memo.Memo) { m.Op.Id = 1 << 63 }},
	{"Op.Cond.Id", func(m *memo.Memo) { m.Op.Cond.Id = 1 }},
	{"Op.Cond.By", func(m *memo.Memo) { m.Op.Cond.By = api.Right }},
	{"Op.Cond.By, none", func(m *memo.Memo) { m.Op.Cond.By = -1 }},
	{"Op.Cond.Amount", func(m *memo.Memo) { m.Op.Cond.Amount = 1 }},
	{"Op.Cond.Hash, first", func(m *memo.Memo) { m.Op.Cond.Hash[0] = 1 }},
	{"Op.Cond.Hash, last", func(m *memo.Memo) { m.Op.Cond.Hash[31] = 1 }},
	{"Op.Cond.Expiry", func(m *memo.Memo) { m.Op.Cond.Expiry = 1 << 40 }},
	{"Trail", func(m *memo.Memo) { m.Trail = trail(1) }},
	{"Trail of a zero hop", func(m *memo.Memo) { m.Trail = []memo.Hop{{}} }},
	{"Trail of 8 hops", func(m *memo.Memo) { m.Trail = trail(8) }},
}

var sigFields = []field{
	{"Sig.Open, first", func(m *memo.Memo) { m.Sig.Open[0][0] = 1 }},
	{"Sig.Open, last", func(m *memo.Memo) { m.Sig.Open[31][15] = 1 }},
	{"Sig.Other, first", func(m *memo.Memo) { m.Sig.Other[0][0] = 1 }},
	{"Sig.Other, last", func(m *memo.Memo) { m.Sig.Other[31][15] = 1 }},
	{"Sig.Key", func(m *memo.Memo) { m.Sig.Key = 1 }},
	{"Sig.Key, highest", func(m *memo.Memo) { m.Sig.Key = 1 << 31 }},
	{"Sig.Way", func(m *memo.Memo) { m.Sig.Way = sums(1) }},
	{"Sig.Way of a zero sum", func(m *memo.Memo) { m.Sig.Way = []api.Digest{{}} }},
	{"Sig.Way of 9", func(m *memo.Memo) { m.Sig.Way = sums(9) }},
}

// P18.1: every field that a kind hasn't, one that isn't zero at a time.
func TestFieldsThatAKindHasnt(t *testing.T) {
	for _, f := range slices.Concat(roundFields, wishFields, sigFields) {
		m := ask()
		f.set(&m)
		wantRight(t, "an Ask with "+f.name, m, false)
	}
	for _, f := range wishFields {
		m := agree(3)
		f.set(&m)
		wantRight(t, "an Agree with "+f.name, m, false)
	}
}

// P18.1: the wish of an Offer is of a kind that there is, and its Cond by a side; whether it is bare isn't asked.
func TestRightWish(t *testing.T) {
	for kind := pact.Pass; kind <= pact.Take; kind++ {
		for by := api.Left; by <= api.Right; by++ {
			m := offer(0, 3)
			m.Op.Kind, m.Op.Cond.By = kind, by
			wantRight(t, "a kind that there is", m, true)
			m.Op = pact.Op{Kind: kind, Cond: api.Cond{By: by}}
			wantRight(t, "a kind, a side, no more", m, true)
		}
		for _, by := range farSides {
			m := offer(0, 3)
			m.Op.Kind, m.Op.Cond.By = kind, by
			wantRight(t, "a Cond by no side", m, false)
		}
	}
	for _, kind := range farOps {
		m := offer(0, 3)
		m.Op.Kind = kind
		wantRight(t, "a wish of no kind", m, false)
		m.Op = pact.Op{Kind: kind}
		wantRight(t, "a wish of no kind and no more", m, false)
	}
}

// P18.1: Trails of an Offer have at most 7 hops, signatures Ways of at most 8.
func TestRightLengths(t *testing.T) {
	for _, many := range []int{0, 1, 2, 6, 7, 8, 9, 255, 256, 257, 300} {
		wantRight(t, "an Offer's Trail", offer(many, 3), many <= 7)
		wantRight(t, "an Offer's Way", offer(2, many), many <= 8)
		wantRight(t, "an Agree's Way", agree(many), many <= 8)
	}
	wantRight(t, "both as long as they may be", offer(7, 8), true)
}

// P18.1, R3: a twin is alike, and neither turns with the other one.
func TestTwin(t *testing.T) {
	for _, m := range []memo.Memo{{}, ask(), offer(0, 0), offer(7, 8), offer(300, 300), agree(8), {Kind: -1, Trail: trail(9)}, {Kind: memo.Ask, Sig: signature(9)}} {
		want := copied(m)
		a, b := m.Twin(), m.Twin()
		if !same(a, want) || !same(m, want) {
			t.Errorf("P18.1: a twin of the kind %d isn't alike", m.Kind)
		}
		clear(a.Trail[:cap(a.Trail)])
		clear(a.Sig.Way[:cap(a.Sig.Way)])
		a.Sig.Open[0][0]++
		if !same(m, want) || !same(b, want) {
			t.Errorf("R3: a memo of the kind %d, or another twin, was turned with a twin", m.Kind)
		}
		clear(m.Trail)
		clear(m.Sig.Way)
		if !same(b, want) {
			t.Errorf("R3: a twin of the kind %d was turned with its memo", m.Kind)
		}
	}
}

// R3: what is laid behind a twin's lists isn't laid into the memo's room.
func TestTwinRoom(t *testing.T) {
	hops, way := trail(4), sums(4)
	m := memo.Memo{Kind: memo.Offer, Trail: hops[:2], Sig: ring.Sig{Way: way[:2]}}
	x := m.Twin()
	_ = append(x.Trail, memo.Hop{Channel: 9})
	_ = append(x.Sig.Way, ramp(99))
	if !slices.Equal(hops, trail(4)) || !slices.Equal(way, sums(4)) {
		t.Error("R3: what was laid behind a twin's lists is in the memo's room")
	}
}
