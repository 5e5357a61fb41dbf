package bailiff_test

import (
	"fmt"
	"math"
	"reflect"
	"slices"
	"testing"

	"tollhouse/api"
	"tollhouse/bailiff"
	"tollhouse/bond"
	"tollhouse/clerk"
	"tollhouse/court"
	"tollhouse/deed"
	"tollhouse/ring"
)

// wantOrders: of a deed these kinds are ordered by an account, in that order, with what they have.
func wantOrders(t *testing.T, name string, c *court.Court, r clerk.Rules, who int, d deed.Deed, want ...int) {
	t.Helper()
	var l []court.Tx
	for _, kind := range want {
		x := court.Tx{Kind: kind, From: who, Bond: d.Channel}
		if kind != court.End {
			x.Deed = d
		}
		l = append(l, x)
	}
	before := bare(court.Tx{Deed: d})
	got := bailiff.Orders(c, r, who, d)
	if !sameOrders(got, l) {
		t.Errorf("P21.2: %s: Orders by %d at %d: %d; want %d, or other fields", name, who, c.Height(), kinds(got), want)
	}
	if !reflect.DeepEqual(bare(court.Tx{Deed: d}), before) {
		t.Errorf("R3: %s: Orders changed the deed", name)
	}
}

// impatient are rules by which all is overdue at once.
var impatient = patient(0)

// P21.2: no court, no such bond, no side of it.
func TestOrdersNone(t *testing.T) {
	// Left has to be paid 4, and a payment is void.
	d := signed(t, taken(4, 4, 5, cond(1, 0, 6, 1)))
	c := bonded(t)
	wantOrders(t, "something to be ordered", c, impatient, 1, d, court.Draw, court.Fight)
	for _, who := range []int{0, 1, 2} {
		wantOrders(t, "no court", nil, impatient, who, d)
		wantOrders(t, "no court", nil, impatient, who, deed.First(0))
	}
	for _, who := range []int{0, 3, 4, 5, -1, math.MinInt, math.MaxInt, 1<<32 + 1} {
		wantOrders(t, "no side", c, impatient, who, d)
		wantOrders(t, "no side", c, impatient, who, deed.First(0))
	}
	for _, id := range []uint32{2, 3, 16, 255, 256, 1 << 31, math.MaxUint32} {
		s := taken(4, 4, 5, cond(1, 0, 6, 1))
		s.Channel = id
		for _, who := range []int{0, 1, 2} {
			wantOrders(t, "no such bond", c, impatient, who, signed(t, s))
			wantOrders(t, "no such bond", c, impatient, who, deed.First(id))
		}
	}
	// A court without bonds, of which the account 0 has no side either.
	for _, id := range []uint32{0, 1} {
		wantOrders(t, "no bond at all", fresh(t), impatient, 0, deed.First(id))
	}
}

// P21.2: the deed's channel says which bond it is.
func TestOrdersBonds(t *testing.T) {
	c := bonded(t)
	s := taken(4, 4, 5, cond(1, 0, 6, 1))
	s.Channel = 1
	d := signed(t, s)
	wantOrders(t, "the other bond", c, impatient, 2, d, court.Draw, court.Fight)
	wantOrders(t, "the other bond", c, impatient, 0, d, court.Draw, court.Fight)
	wantOrders(t, "the other bond", c, impatient, 1, d)
}

// P21.2: a deed that isn't right.
func TestOrdersWrongDeed(t *testing.T) {
	s := taken(4, 4, 5, cond(1, 0, 6, 1))
	other := s
	other.Channel = 1
	forged := func(turn func(d *deed.Deed)) deed.Deed {
		d := signed(t, s).Twin()
		turn(&d)
		return d
	}
	for name, d := range map[string]deed.Deed{
		"not signed":            {State: s},
		"Left didn't sign":      forged(func(d *deed.Deed) { d.Sigs[0] = ring.Sig{} }),
		"Right didn't sign":     forged(func(d *deed.Deed) { d.Sigs[1] = ring.Sig{} }),
		"sides turned round":    forged(func(d *deed.Deed) { d.Sigs[0], d.Sigs[1] = d.Sigs[1], d.Sigs[0] }),
		"more taken":            forged(func(d *deed.Deed) { d.Taken[0]++ }),
		"another round":         forged(func(d *deed.Deed) { d.Round++ }),
		"another payment":       forged(func(d *deed.Deed) { d.Conds[0].Amount++ }),
		"no payment":            forged(func(d *deed.Deed) { d.Conds = nil }),
		"another channel's":     {State: s, Sigs: signed(t, other).Sigs},
		"a short Way":           forged(func(d *deed.Deed) { d.Sigs[1].Way = d.Sigs[1].Way[:7] }),
		"another key":           forged(func(d *deed.Deed) { d.Sigs[0].Key++ }),
		"the round 0, not new":  {State: taken(0, 4, 5, cond(1, 0, 6, 1))},
		"the round 0, taken":    {State: taken(0, 1, 1)},
		"a round without a key": {State: taken(256, 4, 5, cond(1, 0, 6, 1)), Sigs: signed(t, s).Sigs},
	} {
		for _, phase := range []int{bond.Live, bond.Fought} {
			c := bonded(t)
			if phase == bond.Fought {
				c = fought(t, deed.First(0))
			}
			for _, height := range []uint64{4, 7, 8, 20} {
				upTo(t, c, height)
				wantOrders(t, fmt.Sprintf("%s, the phase %d", name, phase), c, impatient, 1, d)
				wantOrders(t, fmt.Sprintf("%s, the phase %d", name, phase), c, impatient, 2, d)
			}
		}
	}
}

// P21.2: of the round 0 nobody signs; what stands in the signatures' place goes along.
func TestOrdersFirst(t *testing.T) {
	c := fought(t, deed.First(0))
	d := deed.First(0)
	d.Sigs[0] = signed(t, taken(4, 0, 0)).Sigs[0]
	wantOrders(t, "the round 0", c, impatient, 1, d)
	upTo(t, c, 8)
	wantOrders(t, "the round 0", c, impatient, 1, d, court.End)
	// Left has to be paid, by what was shown: the deed of the round 0 will do.
	c = bonded(t)
	must(t, c, court.Tx{Kind: court.Draw, From: 2, Deed: signed(t, taken(4, 4, 5))})
	wantOrders(t, "the round 0, Best is newer", c, impatient, 1, d, court.Draw)
	wantOrders(t, "the round 0, Best is newer", c, impatient, 2, d)
}

// P21.2: of a bond that is Shut nothing is ordered, whatever it had.
func TestOrdersShut(t *testing.T) {
	d := signed(t, taken(4, 4, 5, cond(1, 0, 6, 1)))
	c := fought(t, deed.First(0))
	upTo(t, c, 8)
	wantOrders(t, "fought", c, impatient, 1, d, court.Draw, court.End)
	must(t, c, court.Tx{Kind: court.End, From: 0})
	for _, height := range []uint64{9, 10, 30} {
		upTo(t, c, height)
		for _, who := range []int{0, 1, 2} {
			wantOrders(t, "Shut", c, impatient, who, d)
			wantOrders(t, "Shut", c, impatient, who, deed.First(0))
		}
	}
}

// P21.2: a Draw, if the newer one of Best and the deed's state has more taken by the side than it was paid.
func TestOrdersDraw(t *testing.T) {
	best := taken(4, 4, 5)
	for _, w := range []struct {
		name        string
		d           api.State
		left, right bool
	}{
		{"the round 0", taken(0, 0, 0), true, false},
		{"a round behind Best's", taken(3, 1, 4), true, false},
		{"a round behind Best's, with more taken", taken(3, 4, 9), true, false},
		{"a round behind Best's, with nothing taken", taken(3, 0, 0), true, false},
		{"Best", best, true, false},
		{"Best's round, another state with more taken", taken(4, 0, 9), true, false},
		{"one beyond, nothing more", taken(5, 4, 5), true, false},
		{"one beyond, more", taken(5, 4, 6), true, true},
		{"one beyond, more", taken(5, 5, 6), true, true},
		{"one beyond, nothing for Left", taken(5, 0, 6), false, true},
		{"one beyond, nothing at all", taken(5, 0, 5), false, false},
		{"far beyond", taken(200, 1, 50), true, true},
	} {
		// Right has drawn its 5 of Best; Left hasn't drawn.
		c := bonded(t)
		must(t, c, court.Tx{Kind: court.Draw, From: 2, Deed: signed(t, best)})
		d := deed.First(0)
		if w.d.Round > 0 {
			d = signed(t, w.d)
		}
		for who, is := range map[int]bool{1: w.left, 2: w.right} {
			var want []int
			if is {
				want = []int{court.Draw}
			}
			wantOrders(t, w.name, c, impatient, who, d, want...)
		}
	}
}

// P21.2: what was paid isn't ordered again.
func TestOrdersDrawOnce(t *testing.T) {
	c := bonded(t)
	for round := uint64(1); round < 9; round++ {
		d := signed(t, taken(round, round/2, round/3))
		for who, isMore := range map[int]bool{1: round%2 == 0, 2: round%3 == 0} {
			if !isMore {
				wantOrders(t, "nothing more", c, impatient, who, d)
				continue
			}
			wantOrders(t, "more", c, impatient, who, d, court.Draw)
			must(t, c, bailiff.Orders(c, impatient, who, d)...)
			wantOrders(t, "just paid", c, impatient, who, d)
		}
	}
	if b, _ := c.Bond(0); b.Paid != [2]uint64{4, 2} {
		t.Errorf("P21.4: %d were paid", b.Paid)
	}
}

// P21.2: of a bond that is Live a Fight, if the deed's state is overdue.
func TestOrdersFight(t *testing.T) {
	c := bonded(t)
	plain := signed(t, taken(3, 0, 0, cond(1, 0, 6, 9), cond(2, 1, 6, top)))
	drawn := signed(t, taken(4, 1, 0, cond(2, 1, 6, top), cond(1, 0, 6, 9)))
	open := signed(t, taken(5, 1, 0, cond(2, 1, 6, top)))
	none := signed(t, taken(6, 0, 0))
	for _, height := range []uint64{9, 10, 11, 14, 15, 16, 40} {
		upTo(t, c, height)
		for _, n := range []uint64{0, 1, 5, 30, 100} {
			var fight []int
			if height >= 10+n {
				fight = []int{court.Fight}
			}
			for who := 1; who <= 2; who++ {
				wantOrders(t, "Live", c, patient(n), who, plain, fight...)
				wantOrders(t, "Live, nothing pending", c, patient(n), who, none)
			}
			wantOrders(t, "Live", c, patient(n), 2, drawn, fight...)
			wantOrders(t, "Live, something taken", c, patient(n), 1, drawn, append([]int{court.Draw}, fight...)...)
			wantOrders(t, "Live, nothing overdue", c, patient(n), 1, open, court.Draw)
			wantOrders(t, "Live, nothing overdue", c, patient(n), 2, open)
			wantOrders(t, "Live, the first deed", c, patient(n), 1, deed.First(0))
		}
	}
	// A newer Best that is overdue doesn't count, nor one that isn't.
	must(t, c, court.Tx{Kind: court.Draw, From: 1, Deed: open})
	wantOrders(t, "Live, Best isn't overdue", c, impatient, 2, plain, court.Fight)
	wantOrders(t, "Live, Best isn't overdue", c, impatient, 2, open)
	must(t, c, court.Tx{Kind: court.Draw, From: 2, Deed: signed(t, taken(9, 1, 7, cond(1, 0, 6, 9)))})
	wantOrders(t, "Live, Best is overdue", c, impatient, 2, none)
	wantOrders(t, "Live, Best is overdue", c, impatient, 2, deed.First(0))
}

// P21.2: a Fight by each verdict, as soon as Patience says.
func TestOrdersFightPatience(t *testing.T) {
	c := bonded(t)
	d := signed(t, taken(3, 0, 0, cond(1, 0, 6, 50)))
	tellAt(t, c, 8, 1)
	for _, w := range []struct {
		height, n uint64
		is        bool
	}{{8, 0, true}, {8, 1, false}, {11, 3, true}, {11, 4, false}, {11, 2, true}, {107, 99, true}, {107, 100, false}, {108, 100, true}, {108, 101, false}, {109, 101, true}} {
		upTo(t, c, w.height)
		var fight []int
		if w.is {
			fight = []int{court.Fight}
		}
		wantOrders(t, "Patience", c, patient(w.n), 1, d, fight...)
	}
}

// P21.2: of a bond that is Fought a Show, if the deed is newer and the next height below Until; else an End, if the next height isn't.
func TestOrdersShow(t *testing.T) {
	c := fought(t, signed(t, taken(4, 0, 0)))
	old, same, beyond := signed(t, taken(3, 0, 0)), signed(t, taken(4, 0, 0)), signed(t, taken(5, 0, 0))
	other := signed(t, taken(4, 0, 0, cond(1, 0, 3, 1)))
	far := signed(t, taken(200, 0, 0, cond(1, 0, 3, 1)))
	for height := uint64(4); height < 12; height++ {
		upTo(t, c, height)
		show, end := []int{court.Show}, []int(nil)
		// The next height is 9 at 8.
		if height >= 8 {
			show, end = []int{court.End}, []int{court.End}
		}
		for who := 1; who <= 2; who++ {
			for _, r := range []clerk.Rules{impatient, patient(100)} {
				for _, d := range []deed.Deed{old, same, other, deed.First(0)} {
					wantOrders(t, "Fought, nothing newer", c, r, who, d, end...)
				}
				wantOrders(t, "Fought, one beyond", c, r, who, beyond, show...)
				wantOrders(t, "Fought, far beyond", c, r, who, far, show...)
			}
		}
	}
}

// P21.2: an End, if each payment of Best has a verdict; the deed's don't count.
func TestOrdersEnd(t *testing.T) {
	best := signed(t, taken(4, 0, 0, cond(1, 0, 3, 9), cond(2, 1, 4, 20), cond(3, 0, 3, 12)))
	c := fought(t, best)
	open := signed(t, taken(5, 0, 0, cond(7, 0, 3, top)))
	wantEnd := func(name string, is bool) {
		t.Helper()
		var end []int
		if is {
			end = []int{court.End}
		}
		for who := 1; who <= 2; who++ {
			for _, d := range []deed.Deed{deed.First(0), best, open, signed(t, taken(3, 0, 0, cond(7, 0, 3, top))), signed(t, taken(6, 0, 0))} {
				wantOrders(t, name, c, impatient, who, d, end...)
			}
		}
	}
	for height := uint64(8); height < 12; height++ {
		upTo(t, c, height)
		wantEnd("three without a verdict, or two", false)
	}
	tellAt(t, c, 12, 3)
	wantEnd("one is open", false)
	for height := uint64(13); height <= 20; height++ {
		upTo(t, c, height)
		wantEnd("one is open", false)
	}
	upTo(t, c, 21)
	wantEnd("one is paid, two are void", true)
	// The secret told ahead of Until: then it may end at Until.
	c = fought(t, signed(t, taken(4, 0, 0, cond(2, 1, 4, 20))))
	tellAt(t, c, 7, 2)
	best = signed(t, taken(4, 0, 0))
	upTo(t, c, 8)
	wantEnd("the one is paid", true)
	upTo(t, c, 30)
	wantEnd("the one is paid, long ago", true)
}

// P21.2: an End at the next height that is Until, and one beyond, and not one below.
func TestOrdersUntil(t *testing.T) {
	for _, w := range []struct {
		height uint64
		want   []int
	}{{6, nil}, {7, nil}, {8, []int{court.End}}, {9, []int{court.End}}, {10, []int{court.End}}} {
		c := fought(t, deed.First(0))
		upTo(t, c, w.height)
		wantOrders(t, "until 9", c, impatient, 1, deed.First(0), w.want...)
	}
}

// P21.2: a Draw stands ahead of what else is ordered.
func TestOrdersDrawFirst(t *testing.T) {
	d := signed(t, taken(5, 3, 4))
	c := fought(t, deed.First(0))
	for who := 1; who <= 2; who++ {
		wantOrders(t, "a Draw and a Show", c, impatient, who, d, court.Draw, court.Show)
	}
	must(t, c, court.Tx{Kind: court.Draw, From: 1, Deed: d})
	// Now it was shown.
	wantOrders(t, "nothing", c, impatient, 1, d)
	wantOrders(t, "a Draw alone", c, impatient, 2, d, court.Draw)
	wantOrders(t, "a Draw alone", c, impatient, 2, deed.First(0), court.Draw)
	upTo(t, c, 8)
	wantOrders(t, "an End", c, impatient, 1, d, court.End)
	wantOrders(t, "a Draw and an End", c, impatient, 2, d, court.Draw, court.End)
	wantOrders(t, "a Draw and an End", c, impatient, 2, deed.First(0), court.Draw, court.End)
	// Too late to be shown, yet a Draw takes it in.
	wantOrders(t, "a Draw and an End", c, impatient, 1, signed(t, taken(6, 4, 4)), court.Draw, court.End)
}

// P21.2: what the court doesn't ask of an order is zero, and each order's deed is that which was handed in.
func TestOrdersFields(t *testing.T) {
	c := bonded(t)
	d := signed(t, taken(4, 4, 5, cond(1, 0, 6, 1)))
	l := bailiff.Orders(c, impatient, 2, d)
	if len(l) != 2 || l[0].Kind != 4 || l[1].Kind != 5 {
		t.Fatalf("P21.2: Orders: %d", kinds(l))
	}
	for _, x := range l {
		if x.From != 2 || x.Bond != 0 || !reflect.DeepEqual(x.Deed, d) {
			t.Errorf("P21.2: the kind %d: from %d, of the bond %d, or another deed", x.Kind, x.From, x.Bond)
		}
		x.Kind, x.From, x.Deed = 0, 0, deed.Deed{}
		if !reflect.DeepEqual(bare(x), court.Tx{}) {
			t.Errorf("P21.2: other fields: %v", x)
		}
	}
}

// P21.4: orders that waited too long are refused, since things have changed; and also without a fee.
func TestOrdersChanged(t *testing.T) {
	c := bonded(t)
	d := signed(t, taken(4, 4, 5, cond(1, 0, 6, 1)))
	l := bailiff.Orders(c, impatient, 1, d)
	if !slices.Equal(kinds(l), []int{court.Draw, court.Fight}) {
		t.Fatalf("P21.2: Orders: %d", kinds(l))
	}
	must(t, c, l...)
	for place, want := range []api.Errno{api.ErrNone, api.ErrState} {
		if e := alone(t, c, l[place]); e != want {
			t.Errorf("P21.4: once more the kind %d: %d; want %d", l[place].Kind, e, want)
		}
	}
	c = bonded(t)
	must(t, c, court.Tx{Kind: court.Send, From: 1, To: 3, Amount: c.Has(1) - least})
	for _, x := range bailiff.Orders(c, impatient, 1, d) {
		if e := alone(t, c, x); e != api.ErrFee {
			t.Errorf("P21.4: without a fee: %d", e)
		}
	}
}
