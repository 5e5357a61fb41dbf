package desk_test

import (
	"slices"
	"testing"

	"tollhouse/api"
	"tollhouse/deed"
	"tollhouse/memo"
)

// scribble turns all that the lists of a memo have room for.
func scribble(m memo.Memo) {
	l, way := m.Trail[:cap(m.Trail)], m.Sig.Way[:cap(m.Sig.Way)]
	for i := range l {
		l[i] = memo.Hop{Channel: 0xdead, Amount: 1, Id: 2}
	}
	for i := range way {
		way[i] = ramp(200)
	}
}

func scribbleDeed(d deed.Deed) {
	l := d.Conds[:cap(d.Conds)]
	for i := range l {
		l[i] = cond(0xdead, 1, 2)
	}
	for _, sig := range d.Sigs {
		scribble(memo.Memo{Sig: sig})
	}
}

// R3: hops handed in aren't changed nor kept, nor is the room behind them.
func TestHopsArentKept(t *testing.T) {
	p := newPair(t, 3)
	room := hops(6)
	if _, e := p.at[0].Offer(plenty, pay(4), room[:3]...); e != api.OK || !slices.Equal(room, hops(6)) {
		t.Fatalf("R3: Offer: %d, or it changed the hops", e)
	}
	before := imageOf(p.at[0])
	clear(room)
	if m, _ := p.at[0].Open(); !imageOf(p.at[0]).same(before) || !slices.Equal(m.Trail, hops(3)) {
		t.Error("R3: Offer kept the hops")
	}
}

// R3: memos handed in aren't changed nor kept.
func TestMemosArentKept(t *testing.T) {
	p := newPair(t, 3)
	m, _ := p.at[0].Offer(plenty, lock(1, 0, 4), hops(2)...)
	heard := m.Twin()
	x, _, e := p.at[1].Hear(plenty, heard)
	if e != api.OK || !sameMemo(heard, m) {
		t.Errorf("R3: Hear: %d, or it changed the memo", e)
	}
	before := imageOf(p.at[1])
	scribble(heard)
	if !imageOf(p.at[1]).same(before) || !rootsOf(t, 3).Whole(p.at[1].Best(), channel) {
		t.Error("R3: Hear kept the memo's signature")
	}
	agreed := x.Twin()
	if e := p.at[0].Agreed(agreed); e != api.OK || !sameMemo(agreed, x) {
		t.Errorf("R3: Agreed: %d, or it changed the memo", e)
	}
	before = imageOf(p.at[0])
	scribble(agreed)
	if !imageOf(p.at[0]).same(before) || !rootsOf(t, 3).Whole(p.at[0].Best(), channel) {
		t.Error("R3: Agreed kept the memo's signature")
	}
}

// R3: the room behind a signature that is handed in isn't turned.
func TestRoomBehindWays(t *testing.T) {
	p := newPair(t, 3)
	m, _ := p.at[0].Offer(plenty, pay(4))
	way := append(slices.Clone(m.Sig.Way), ramp(1), ramp(2))
	m.Sig.Way = way[:3]
	x, _, e := p.at[1].Hear(plenty, m)
	if e != api.OK || way[3] != api.Digest(ramp(1)) || way[4] != api.Digest(ramp(2)) {
		t.Errorf("R3: Hear: %d, or it changed the room", e)
	}
	way = append(slices.Clone(x.Sig.Way), ramp(1), ramp(2))
	x.Sig.Way = way[:3]
	if e := p.at[0].Agreed(x); e != api.OK || way[3] != api.Digest(ramp(1)) || way[4] != api.Digest(ramp(2)) {
		t.Errorf("R3: Agreed: %d, or it changed the room", e)
	}
}

// R3: bytes that were loaded aren't kept, and bytes that are saved aren't the desk's own.
func TestSavedBytesAreNew(t *testing.T) {
	p := newPair(t, 3)
	p.do(t, plenty, lock(1, 0, 4))
	p.at[1].Offer(plenty, pay(4), hops(3)...)
	for side, d := range p.at {
		want := imageOf(d)
		given := d.Save()
		x := loaded(t, api.Side(side), 3, given)
		for _, p := range [][]byte{given, d.Save(), x.Save()} {
			_ = append(p, 1, 2, 3)
			clear(p[:cap(p)])
		}
		if !imageOf(d).same(want) || !imageOf(x).same(want) {
			t.Errorf("R3: the side %d: turned with bytes it was saved as", side)
		}
	}
}

// R3: what is handed out isn't the desk's own memory, nor another answer's, its spare room neither.
func TestHandedOutIsNew(t *testing.T) {
	p := newPair(t, 3)
	p.do(t, plenty, lock(1, 0, 4))
	p.do(t, plenty, lock(2, 1, 4))
	before := [2]image{imageOf(p.at[0]), imageOf(p.at[1])}
	a, b := p.at[0].Best(), p.at[0].Best()
	scribbleDeed(a)
	if !sameDeed(b, before[0].best) || !imageOf(p.at[0]).same(before[0]) {
		t.Error("R3: Best is the desk's own memory")
	}
	m, _ := p.at[0].Offer(plenty, lock(3, 0, 4), hops(3)...)
	want := imageOf(p.at[0])
	sent := m.Twin()
	scribble(m)
	open, _ := p.at[0].Open()
	scribble(open)
	if !imageOf(p.at[0]).same(want) || !sameMemo(want.open, sent) {
		t.Error("R3: Offer, or Open, is the desk's own memory")
	}
	x, _, _ := p.at[1].Hear(plenty, sent)
	want = imageOf(p.at[1])
	answer := x.Twin()
	scribble(x)
	y, _, _ := p.at[1].Hear(plenty, sent)
	if !imageOf(p.at[1]).same(want) || !sameMemo(y, answer) {
		t.Error("R3: Hear is the desk's own memory")
	}
	scribble(y)
	if z, _, _ := p.at[1].Hear(plenty, sent); !imageOf(p.at[1]).same(want) || !sameMemo(z, answer) {
		t.Error("R3: Hear, once more, is the desk's own memory")
	}
	if e := p.at[0].Agreed(answer); e != api.OK || !sameDeed(p.at[0].Best(), p.at[1].Best()) {
		t.Errorf("P19.2: Agreed: %d", e)
	}
}

// R3: no two lists of one deed share any.
func TestListsAreApart(t *testing.T) {
	p := newPair(t, 3)
	p.do(t, plenty, lock(1, 0, 4))
	for side, d := range p.at {
		x := d.Best()
		scribble(memo.Memo{Sig: x.Sigs[0]})
		if !sameSig(x.Sigs[1], d.Best().Sigs[1]) {
			t.Errorf("R3: the side %d: two Ways of one deed share memory", side)
		}
	}
}

// R3: states are values: what was told earlier doesn't turn with what is agreed to later.
func TestToldStays(t *testing.T) {
	p := newPair(t, 4)
	p.do(t, plenty, lock(1, 0, 4))
	p.do(t, plenty, lock(2, 1, 4))
	told := p.at[0].Best()
	want := told.Twin()
	m, _ := p.at[0].Offer(plenty, lock(3, 0, 4), hops(2)...)
	open, _ := p.at[0].Open()
	sent := m.Twin()
	x, _, _ := p.at[1].Hear(plenty, m)
	p.at[0].Agreed(x)
	for range 3 {
		p.do(t, plenty, lock(10+p.at[0].Best().Round, p.turn(), 1), hops(5)...)
	}
	if !sameDeed(told, want) || !sameMemo(m, sent) || !sameMemo(open, sent) {
		t.Error("R3: what was told turned later on")
	}
}
