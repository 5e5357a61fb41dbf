package desk_test

import (
	"bytes"
	"fmt"
	"math"
	"slices"
	"testing"

	"tollhouse/api"
	"tollhouse/deed"
	"tollhouse/desk"
	"tollhouse/memo"
	"tollhouse/pact"
	"tollhouse/ring"
)

const (
	top     = math.MaxUint64
	channel = 0x01020304
)

// plenty is what both put in, where nothing hangs on it.
var plenty = [2]uint64{1000, 1000}

// farSides are no sides.
var farSides = []api.Side{-1, 2, 3, 128, 255, 256, 257, 1 << 32, 1<<32 + 1, -256, math.MinInt, math.MaxInt}

// farOps are numbers of no kind of a wish.
var farOps = []int{-1, 6, 7, 127, 128, 255, 256, 257, 261, 1<<32 + 2, -256, math.MinInt, math.MaxInt}

// ramp are 32 bytes that count up from first.
func ramp(first byte) [32]byte {
	var p [32]byte
	for i := range p {
		p[i] = first + byte(i)
	}
	return p
}

// seeds are those of Left and Right.
var seeds = [2][32]byte{ramp(1), ramp(101)}

func ringOf(t *testing.T, side api.Side, tall int) *ring.Ring {
	t.Helper()
	r, e := ring.New(seeds[side], tall)
	if e != api.OK {
		t.Fatalf("a ring of the height %d: %d", tall, e)
	}
	return r
}

// rootsMade are told once a height, for a tall ring takes its time.
var rootsMade [9]deed.Roots

func rootsOf(t *testing.T, tall int) deed.Roots {
	t.Helper()
	if rootsMade[tall] == (deed.Roots{}) {
		rootsMade[tall] = deed.Roots{Of: [2]api.Digest{ringOf(t, 0, tall).Root(), ringOf(t, 1, tall).Root()}, Tall: tall}
	}
	return rootsMade[tall]
}

func deskOf(t *testing.T, side api.Side, tall int) *desk.Desk {
	t.Helper()
	d, e := desk.New(channel, side, rootsOf(t, tall), seeds[side])
	if e != api.OK || d == nil {
		t.Fatalf("P19.1: New of the side %d, height %d: %d", side, tall, e)
	}
	return d
}

func loaded(t *testing.T, side api.Side, tall int, p []byte) *desk.Desk {
	t.Helper()
	d, e := desk.Load(channel, side, rootsOf(t, tall), seeds[side], p)
	if e != api.OK || d == nil {
		t.Fatalf("P19.3: Load of the side %d, height %d: %d", side, tall, e)
	}
	return d
}

// pair are both sides of a channel.
type pair struct {
	at   [2]*desk.Desk
	tall int
}

func newPair(t *testing.T, tall int) pair {
	t.Helper()
	return pair{at: [2]*desk.Desk{deskOf(t, 0, tall), deskOf(t, 1, tall)}, tall: tall}
}

// turn is whose turn the next round is.
func (p pair) turn() api.Side { return api.Side(p.at[0].Best().Round % 2) }

// do agrees to a wish of whose turn it is.
func (p pair) do(t *testing.T, put [2]uint64, op pact.Op, trail ...memo.Hop) {
	t.Helper()
	by := p.turn()
	m, e := p.at[by].Offer(put, op, trail...)
	if e != api.OK {
		t.Fatalf("P19.2: Offer of %v: %d", op, e)
	}
	x, news, e := p.at[1-by].Hear(put, m)
	if e != api.OK || !news {
		t.Fatalf("P19.2: Hear of %v: %t, %d", op, news, e)
	}
	if e := p.at[by].Agreed(x); e != api.OK {
		t.Fatalf("P19.2: Agreed of %v: %d", op, e)
	}
}

// pairAt are two sides that agreed to so many rounds of nothing.
func pairAt(t *testing.T, tall int, round uint64) pair {
	t.Helper()
	p := newPair(t, tall)
	for range round {
		p.do(t, plenty, pact.Op{})
	}
	return p
}

func cond(id uint64, by api.Side, amount uint64) api.Cond {
	return api.Cond{Id: id, By: by, Amount: amount, Hash: ramp(byte(id)), Expiry: id<<40 + 9}
}

func pay(amount uint64) pact.Op { return pact.Op{Kind: pact.Pay, Amount: amount} }

func lock(id uint64, by api.Side, amount uint64) pact.Op {
	return pact.Op{Kind: pact.Lock, Cond: cond(id, by, amount)}
}

// full is a wish of a kind with something in each field.
func full(kind int, by api.Side) pact.Op {
	return pact.Op{Kind: kind, Amount: 2, Id: 7, Cond: cond(7, by, 3)}
}

// hops are so many, no two alike.
func hops(many int) []memo.Hop {
	var l []memo.Hop
	for i := range many {
		l = append(l, memo.Hop{Channel: uint32(i+1) << 24, Amount: top - uint64(i), Id: uint64(i + 1)})
	}
	return l
}

func sameSig(a, b ring.Sig) bool {
	return a.Sig == b.Sig && a.Key == b.Key && slices.Equal(a.Way, b.Way)
}

func sameMemo(a, b memo.Memo) bool {
	return a.Kind == b.Kind && a.Channel == b.Channel && a.Round == b.Round && a.Op == b.Op && slices.Equal(a.Trail, b.Trail) && sameSig(a.Sig, b.Sig)
}

func sameDeed(a, b deed.Deed) bool {
	return pact.Same(a.State, b.State) && sameSig(a.Sigs[0], b.Sigs[0]) && sameSig(a.Sigs[1], b.Sigs[1])
}

// brief is a memo without its signature's pieces.
func brief(m memo.Memo) string {
	return fmt.Sprintf("%d of %d, round %d, %v, %v, key %d, way %d", m.Kind, m.Channel, m.Round, m.Op, m.Trail, m.Sig.Key, len(m.Sig.Way))
}

// image is all that a desk tells.
type image struct {
	id     uint32
	side   api.Side
	best   deed.Deed
	turn   bool
	open   memo.Memo
	isOpen bool
	ask    memo.Memo
	saved  []byte
}

func imageOf(d *desk.Desk) image {
	open, isOpen := d.Open()
	return image{d.Id(), d.Side(), d.Best(), d.Turn(), open, isOpen, d.Ask(), d.Save()}
}

func (a image) same(b image) bool {
	return a.id == b.id && a.side == b.side && sameDeed(a.best, b.best) && a.turn == b.turn && sameMemo(a.open, b.open) &&
		a.isOpen == b.isOpen && sameMemo(a.ask, b.ask) && bytes.Equal(a.saved, b.saved)
}

// P19.1: the chapter's example, and what new desks tell.
func TestNew(t *testing.T) {
	for _, id := range []uint32{0, 1, 3, 1 << 31, math.MaxUint32} {
		for tall := range 5 {
			for side := api.Left; side <= api.Right; side++ {
				d, e := desk.New(id, side, rootsOf(t, tall), seeds[side])
				if e != api.OK || d == nil {
					t.Fatalf("P19.1: New: %d", e)
				}
				if d.Id() != id || d.Side() != side || d.Turn() != (side == api.Left) || !sameDeed(d.Best(), deed.First(id)) {
					t.Errorf("P19.1: the channel %d, side %d: %d, %d, %t, %v", id, side, d.Id(), d.Side(), d.Turn(), d.Best().State)
				}
				if m, ok := d.Open(); ok || !sameMemo(m, memo.Memo{}) {
					t.Errorf("P19.1: the channel %d, side %d: Open: %s", id, side, brief(m))
				}
				if m := d.Ask(); !sameMemo(m, memo.Memo{Kind: memo.Ask, Channel: id}) {
					t.Errorf("P19.1: the channel %d, side %d: Ask: %s", id, side, brief(m))
				}
			}
		}
	}
}

// wantNoDesk: there is no such desk, neither new nor loaded, whatever is loaded.
func wantNoDesk(t *testing.T, name string, side api.Side, roots deed.Roots, seed [32]byte, want api.Errno) {
	t.Helper()
	if d, e := desk.New(channel, side, roots, seed); d != nil || e != want {
		t.Errorf("P19.1: %s: New: %d, want %d", name, e, want)
	}
	good := append([]byte{0, 0, 0, 45}, append(deed.First(channel).Bytes(), 0)...)
	for _, p := range [][]byte{nil, good, good[:9], {255, 255, 255, 255}} {
		if d, e := desk.Load(channel, side, roots, seed, p); d != nil || e != want {
			t.Errorf("P19.3: %s: Load of %d bytes: %d, want %d", name, len(p), e, want)
		}
	}
}

// P19.1, P19.3: sides that there aren't, heights that no ring has, seeds of other roots; the first of these is told.
func TestNewWrong(t *testing.T) {
	k := rootsOf(t, 2)
	for _, side := range farSides {
		wantNoDesk(t, "no such side", side, k, seeds[0], api.ErrArg)
		wantNoDesk(t, "no such side, another's seed", side, k, ramp(9), api.ErrArg)
		wantNoDesk(t, "no such side, no such height", side, deed.Roots{Of: k.Of, Tall: 9}, seeds[1], api.ErrArg)
	}
	for side := api.Left; side <= api.Right; side++ {
		for _, tall := range []int{-1, -2, 9, 10, 31, 32, 63, 64, 1 << 32, 1<<32 + 2, math.MinInt, math.MaxInt} {
			wantNoDesk(t, "no such height", side, deed.Roots{Of: k.Of, Tall: tall}, seeds[side], api.ErrArg)
			wantNoDesk(t, "no such height, another's seed", side, deed.Roots{Tall: tall}, ramp(9), api.ErrArg)
		}
		for _, tall := range []int{0, 1, 3, 4} {
			wantNoDesk(t, "the root of another height", side, deed.Roots{Of: k.Of, Tall: tall}, seeds[side], api.ErrSign)
		}
		wantNoDesk(t, "the other side's seed", side, k, seeds[1-side], api.ErrSign)
		wantNoDesk(t, "another's seed", side, k, ramp(9), api.ErrSign)
		wantNoDesk(t, "no roots", side, deed.Roots{Tall: 2}, seeds[side], api.ErrSign)
		for at := range 32 {
			turned := k
			turned.Of[side][at] ^= 1
			wantNoDesk(t, "a root turned", side, turned, seeds[side], api.ErrSign)
		}
	}
}

// P19.1: heights of 5 and more, the tallest too; the other side's root isn't looked at.
func TestNewTall(t *testing.T) {
	for tall := range 9 {
		for side := api.Left; side <= api.Right; side++ {
			k := rootsOf(t, tall)
			k.Of[1-side] = api.Digest{}
			if d, e := desk.New(channel, side, k, seeds[side]); e != api.OK || d.Side() != side {
				t.Errorf("P19.1: New of the height %d: %d", tall, e)
			}
		}
	}
}

// P19.1: whether it is its turn: by turns, and not while an offer is open.
func TestTurn(t *testing.T) {
	p := newPair(t, 4)
	for round := uint64(1); round < 16; round++ {
		by := api.Side(1 - round%2)
		if !p.at[by].Turn() || p.at[1-by].Turn() {
			t.Errorf("P19.1: Turn ahead of the round %d: %t, %t", round, p.at[0].Turn(), p.at[1].Turn())
		}
		m, e := p.at[by].Offer(plenty, pact.Op{})
		if e != api.OK || p.at[by].Turn() || p.at[1-by].Turn() {
			t.Errorf("P19.1: Turn behind the Offer of the round %d: %t, %t", round, p.at[0].Turn(), p.at[1].Turn())
		}
		x, _, _ := p.at[1-by].Hear(plenty, m)
		if p.at[by].Turn() || !p.at[1-by].Turn() {
			t.Errorf("P19.1: Turn behind Hear of the round %d: %t, %t", round, p.at[0].Turn(), p.at[1].Turn())
		}
		if e := p.at[by].Agreed(x); e != api.OK || p.at[by].Turn() || !p.at[1-by].Turn() {
			t.Errorf("P19.1: Turn behind Agreed of the round %d: %t, %t", round, p.at[0].Turn(), p.at[1].Turn())
		}
	}
	// Behind the last key's round it is still somebody's turn, though nothing can be offered.
	if p.at[0].Turn() || !p.at[1].Turn() {
		t.Error("P19.1: Turn ahead of the round 16")
	}
}

// P19.1: a wish made bare has what its kind has.
func TestBare(t *testing.T) {
	for by := api.Left; by <= api.Right; by++ {
		op := full(0, by)
		for kind, want := range map[int]pact.Op{
			pact.Pass: {},
			pact.Pay:  {Kind: 1, Amount: 2},
			pact.Lock: {Kind: 2, Cond: op.Cond},
			pact.Done: {Kind: 3, Id: 7},
			pact.Undo: {Kind: 4, Id: 7},
			pact.Take: {Kind: 5, Amount: 2},
		} {
			if got := desk.Bare(full(kind, by)); got != want {
				t.Errorf("P19.1: Bare of the kind %d: %v, want %v", kind, got, want)
			}
			if got := desk.Bare(want); got != want {
				t.Errorf("P19.1: Bare of a bare one: %v, want %v", got, want)
			}
			if got := desk.Bare(pact.Op{Kind: kind}); got != (pact.Op{Kind: kind}) {
				t.Errorf("P19.1: Bare of the kind %d without anything: %v", kind, got)
			}
		}
	}
	far := pact.Op{Kind: pact.Lock, Cond: cond(top, math.MinInt, top)}
	if got := desk.Bare(far); got != far {
		t.Errorf("P19.1: Bare of a Lock by no side: %v", got)
	}
	// A kind that there isn't has nothing.
	for _, kind := range farOps {
		if got := desk.Bare(full(kind, 1)); got != (pact.Op{Kind: kind}) {
			t.Errorf("P19.1: Bare of the kind %d: %v", kind, got)
		}
	}
}

// R1, P19.1: a nil desk, each call, whatever is handed in.
func TestNilDesk(t *testing.T) {
	var d *desk.Desk
	if !imageOf(d).same(image{}) || d.Turn() || len(d.Save()) > 0 {
		t.Errorf("P19.1: of a nil desk: %d, %d, %t", d.Id(), d.Side(), d.Turn())
	}
	p := newPair(t, 1)
	m, _ := p.at[0].Offer(plenty, pact.Op{})
	x, _, _ := p.at[1].Hear(plenty, m)
	for _, op := range []pact.Op{{}, lock(1, 5, 0), {Kind: 99}} {
		for _, trail := range [][]memo.Hop{nil, hops(8)} {
			if got, e := d.Offer(plenty, op, trail...); e != api.ErrNil || !sameMemo(got, memo.Memo{}) {
				t.Errorf("R1: Offer of a nil desk: %s, %d", brief(got), e)
			}
		}
	}
	for _, m := range []memo.Memo{{}, m, x, {Kind: 99}} {
		if got, news, e := d.Hear(plenty, m); e != api.ErrNil || news || !sameMemo(got, memo.Memo{}) {
			t.Errorf("R1: Hear of a nil desk: %s, %t, %d", brief(got), news, e)
		}
		if e := d.Agreed(m); e != api.ErrNil {
			t.Errorf("R1: Agreed of a nil desk: %d", e)
		}
	}
}

// R1: a desk that isn't out of the package's own calls doesn't panic.
func TestZeroDesk(t *testing.T) {
	d := &desk.Desk{}
	imageOf(d)
	for _, round := range []uint64{0, 1, 2, top} {
		d.Offer(plenty, pact.Op{}, hops(2)...)
		d.Hear(plenty, memo.Memo{Kind: memo.Offer, Round: round})
		d.Agreed(memo.Memo{Kind: memo.Agree, Round: round})
	}
	imageOf(d)
}

// P19.2: a whole channel, with wishes of each kind, up to the last round.
func TestChannel(t *testing.T) {
	p := newPair(t, 8)
	s := pact.New(channel)
	for round := range uint64(200) {
		by := api.Side(round % 2)
		op := []pact.Op{lock(round, by, 5), lock(round, by, 6), pay(2), {Kind: pact.Take, Amount: 1}, {Kind: pact.Done, Id: round - 4}, {Kind: pact.Undo, Id: round - 4}, {}, {}}[round%8]
		next, e := pact.Next(s, plenty, by, op)
		if e != api.OK {
			t.Fatalf("the round %d: %d", round+1, e)
		}
		p.do(t, plenty, op, hops(int(round%8))...)
		s = next
		for side := range p.at {
			if d := p.at[side].Best(); !pact.Same(d.State, s) || !rootsOf(t, 8).Whole(d, channel) {
				t.Fatalf("P19.2: the round %d: %v, want %v", round+1, d.State, s)
			}
		}
	}
	if !p.at[0].Turn() || p.at[1].Turn() {
		t.Error("P19.1: Turn behind the last round")
	}
	// The last round there may be, though the ring has keys left.
	refuseOffer(t, "beyond the last round", p.at[0], plenty, pact.Op{}, nil, api.ErrLimit)
	refuseOffer(t, "beyond the last round, a wish of no kind", p.at[0], plenty, pact.Op{Kind: 6}, nil, api.ErrLimit)
	refuseHear(t, "beyond the last round", p.at[1], plenty, forged(t, 0, 8, p.at[0].Best().State, plenty, pact.Op{}), api.ErrLimit)
	refuseHear(t, "beyond the last round, its own turn", p.at[0], plenty, memo.Memo{Kind: memo.Offer, Channel: channel, Round: 201}, api.ErrTurn)
}
