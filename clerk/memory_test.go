package clerk_test

import (
	"bytes"
	"slices"
	"testing"

	"tollhouse/api"
	"tollhouse/clerk"
	"tollhouse/memo"
	"tollhouse/pact"
)

// scribble turns all that a list of hops has room for.
func scribble(l []memo.Hop) {
	l = l[:cap(l)]
	for i := range l {
		l[i] = memo.Hop{Channel: 0xdead, Amount: 1, Id: 2}
	}
}

// scribbleAll turns all that a list of wishes has room for, and their Trails.
func scribbleAll(l []clerk.Wish) {
	l = l[:cap(l)]
	for i := range l {
		scribble(l[i].Trail)
		l[i] = clerk.Wish{Op: pact.Op{Kind: 99}}
	}
}

// R3: a Twin's Trail is new memory, its spare room too.
func TestTwinIsNew(t *testing.T) {
	room := hops(7)
	for n := range 8 {
		w := clerk.Wish{Op: done(4), Trail: room[:n]}
		a, b := w.Twin(), w.Twin()
		scribble(a.Trail)
		if !slices.Equal(room, hops(7)) || !sameWish(b, w) {
			t.Errorf("R3: Twin of a Trail of %d shares it", n)
		}
		scribble(b.Trail)
		if !slices.Equal(room, hops(7)) {
			t.Errorf("R3: Twin of a Trail of %d shares its room", n)
		}
	}
}

// R3: what Forward answers is new memory; nor is the room behind the Trail changed.
func TestForwardIsNew(t *testing.T) {
	c := streets(t)
	room := append([]memo.Hop{{Channel: 1, Amount: 10, Id: 3}}, hops(8)...)
	before := slices.Clone(room)
	for n := 1; n <= len(room); n++ {
		_, w, e := plain.Forward(c, 2, came(13, 13), room[:n])
		if e != api.OK || len(w.Trail) != n-1 {
			t.Fatalf("P20.2: Forward: %v, %d", w, e)
		}
		scribble(w.Trail)
		if !slices.Equal(room, before) {
			t.Errorf("R3: Forward over a Trail of %d shares it", n)
		}
	}
	_, w, _ := plain.Forward(c, 2, came(13, 13), room)
	clear(room)
	if !slices.Equal(w.Trail, before[1:]) {
		t.Error("R3: Forward kept the Trail")
	}
}

// R3: what Add answers is new memory, and has nothing of what was handed in; nor is the room behind the wishes changed.
func TestAddIsNew(t *testing.T) {
	all := func() []clerk.Wish { return []clerk.Wish{wish(2, 3), {Op: done(4)}, wish(1, 7), wish(5, 2)} }
	for _, n := range []int{0, 1, 2, 3} {
		for _, w := range []clerk.Wish{wish(1, 7), wish(5, 2), {Op: undo(4), Trail: hops(2)}, {Op: undo(5)}} {
			room, trail := all(), w.Trail
			want := clerk.Add(room[:n], w.Twin())
			got := clerk.Add(room[:n], w)
			if !sameWishes(room, all()) {
				t.Fatal("R3: Add changed the wishes, or the room behind them")
			}
			again := clerk.Add(room[:n], w)
			scribbleAll(got)
			if !sameWishes(room, all()) || !sameWishes(again, want) || !slices.Equal(w.Trail, trail) {
				t.Errorf("R3: Add of %v to %d shares memory", w, n)
			}
			scribbleAll(room)
			scribble(w.Trail)
			if !sameWishes(again, want) {
				t.Errorf("R3: Add of %v to %d kept what was handed in", w, n)
			}
		}
	}
}

// R3: no two Trails of one answer share any, also where one Trail was handed in for all.
func TestTrailsAreApart(t *testing.T) {
	trail := hops(3)
	l := []clerk.Wish{{Op: done(1), Trail: trail}, {Op: done(2), Trail: trail}}
	got := clerk.Add(l, clerk.Wish{Op: done(3), Trail: trail})
	for place := range got {
		scribble(got[place].Trail)
		for _, o := range got[place+1:] {
			if !slices.Equal(o.Trail, hops(3)) {
				t.Errorf("R3: Add: the Trail %d is another one's", place)
			}
		}
	}
	loaded, e := clerk.Load(clerk.Save(l))
	if e != api.OK || len(loaded) != 2 {
		t.Fatalf("P20.4: Load: %d", e)
	}
	scribble(loaded[0].Trail)
	if !slices.Equal(loaded[1].Trail, hops(3)) || !slices.Equal(trail, hops(3)) {
		t.Error("R3: Load: two Trails share memory")
	}
}

// R3: bytes that are saved are new each time, and bytes that were loaded aren't kept.
func TestSavedIsNew(t *testing.T) {
	l := many(5)
	p, q := clerk.Save(l), clerk.Save(l)
	clear(p[:cap(p)])
	if !bytes.Equal(q, laid(l...)) || !sameWishes(l, many(5)) {
		t.Error("R3: Save shares memory")
	}
	got, e := clerk.Load(q)
	clear(q[:cap(q)])
	if e != api.OK || !sameWishes(got, l) {
		t.Errorf("R3: Load kept the bytes: %d", e)
	}
	again, _ := clerk.Load(laid(l...))
	scribbleAll(got)
	if !sameWishes(again, l) {
		t.Error("R3: Load shares memory")
	}
	if none := clerk.Save(nil); !bytes.Equal(none, []byte{0}) {
		t.Errorf("P20.3: Save of none: %x", none)
	}
}

// R3: what Settle and Claims answer is new memory, and the state stays as it was.
func TestAnswersAreNew(t *testing.T) {
	c, _ := scene(t)
	room := []api.Cond{cond(1, 0, 5, 3), cond(9, 0, 5, 20), cond(2, 1, 6, 6), cond(8, 0, 7, 20)}
	before := slices.Clone(room)
	s := stateOf(room[:3]...)
	settles, claims := clerk.Settle(c, s), quick.Claims(c, s, 1, knows(8, 9))
	scribbleAll(clerk.Settle(c, s))
	l := quick.Claims(c, s, 1, knows(8, 9))
	clear(l[:cap(l)])
	quick.Allows(c, s, 0, undo(2))
	if !slices.Equal(room, before) || len(settles) != 2 || settles[0].Op != done(1) || !slices.Equal(claims, secretsOf(9)) {
		t.Errorf("R3: %v, %v, %v", room, settles, claims)
	}
}
