package bond_test

import (
	"slices"
	"testing"

	"tollhouse/api"
	"tollhouse/bond"
	"tollhouse/deed"
	"tollhouse/notary"
)

// told is a notary to whom the secrets of some Ids were told, each at a height.
func told(t *testing.T, at map[uint64]uint64) *notary.Notary {
	t.Helper()
	n := notary.New()
	for secret, height := range at {
		if e := n.Tell(secretOf(secret), height); e != api.OK {
			t.Fatalf("Tell of %d: %d", secret, e)
		}
	}
	return n
}

// wantEnd: it ends, pays that, and is Shut, but else as it was.
func wantEnd(t *testing.T, name string, b bond.Bond, n *notary.Notary, height uint64, out [2]uint64) {
	t.Helper()
	ended := twin(b)
	ended.Phase = bond.Shut
	many := n.Many()
	want(t, "P14.3: End, "+name, b, end(n, height), result{b: ended, paid: out})
	if n.Many() != many {
		t.Errorf("P14.3: End, %s: the notary was told something", name)
	}
	// P14.4, in whole numbers that are small here.
	if b.Locked() != out[0]+out[1] {
		t.Errorf("P14.4: End, %s: %d were held, %d paid", name, b.Locked(), out)
	}
}

// The chapter's example.
func TestExample(t *testing.T) {
	b := done(t, bondOf(t, [2]uint64{}), more(api.Left, 10), fight(deed.First(id), 3))
	if b.Until != 8 || b.Phase != bond.Fought {
		t.Errorf("P14.2: %v", b)
	}
	wantEnd(t, "the example", b, notary.New(), 8, [2]uint64{10, 0})
}

// P14.3: End is early below Until, whatever the verdicts.
func TestEndEarly(t *testing.T) {
	d := signed(t, state(4, [2]uint64{5, 1}, [2]uint64{}, cond(1, 0, 6, 2)))
	for _, c := range []struct{ fought, until uint64 }{{0, 5}, {3, 8}, {1 << 40, 1<<40 + 5}, {top - 5, top}} {
		b := done(t, bondOf(t, [2]uint64{30, 40}), fight(d, c.fought))
		for _, n := range []*notary.Notary{nil, notary.New(), told(t, map[uint64]uint64{1: 2})} {
			for _, height := range []uint64{0, c.fought, c.until - 2, c.until - 1} {
				wantError(t, "P14.3: End too early", b, end(n, height), api.ErrEarly)
			}
			out := [2]uint64{26, 44}
			if n.Many() > 0 {
				out = [2]uint64{20, 50}
			}
			for _, height := range []uint64{c.until, max(c.until, c.until+1), top} {
				wantEnd(t, "late enough", b, n, height, out)
			}
		}
	}
}

// P14.3: End in each phase.
func TestEndPhases(t *testing.T) {
	for name, b := range eachPhase(t) {
		for _, height := range []uint64{0, 15, 16, 20, 21, top} {
			e := map[string]api.Errno{"Live": api.ErrState, "Shut": api.ErrClosed}[name]
			if name == "Fought" && height <= 20 {
				e = api.ErrEarly
			}
			if e != api.OK {
				wantError(t, "P14.3: End of one that is "+name, b, end(notary.New(), height), e)
			}
		}
	}
	// Free of Left are 30+1-5-2-6, of Right 40+5-1-3-7.
	wantEnd(t, "nothing told", eachPhase(t)["Fought"], notary.New(), 21, [2]uint64{18 + 6, 34 + 7})
}

// P14.3: what becomes of each payment, by its verdict.
func TestEndVerdicts(t *testing.T) {
	// Free of Left are 100+3-4-6-12, of Right 200+4-3-8-50.
	s := state(9, [2]uint64{4, 3}, [2]uint64{6, 8}, cond(1, 0, 5, 20), cond(2, 1, 20, 30), cond(3, 0, 7, 20), cond(4, 1, 30, 3))
	b := done(t, bondOf(t, [2]uint64{100, 200}), fight(signed(t, s), 10))
	const left, right = 81 + 6, 143 + 8
	for _, c := range []struct {
		name   string
		told   map[uint64]uint64
		height uint64
		want   [2]uint64
		e      api.Errno
	}{
		{"nothing told, all void", nil, 31, [2]uint64{left + 12, right + 50}, api.OK},
		{"nothing told, one open", nil, 30, [2]uint64{}, api.ErrEarly},
		{"nothing told, three open", nil, 20, [2]uint64{}, api.ErrEarly},
		{"nothing told, at Until", nil, 15, [2]uint64{}, api.ErrEarly},
		{"all told in time", map[uint64]uint64{1: 20, 2: 30, 3: 1, 4: 3}, 15, [2]uint64{left + 50, right + 12}, api.OK},
		{"all told in time, later", map[uint64]uint64{1: 20, 2: 30, 3: 1, 4: 3}, top, [2]uint64{left + 50, right + 12}, api.OK},
		{"the first one told", map[uint64]uint64{1: 20}, 31, [2]uint64{left + 7, right + 5 + 50}, api.OK},
		{"the second one told", map[uint64]uint64{2: 30}, 31, [2]uint64{left + 12 + 20, right + 30}, api.OK},
		{"the second one told, at 21", map[uint64]uint64{2: 16}, 21, [2]uint64{left + 12 + 20, right + 30}, api.OK},
		{"the second one told, at 20", map[uint64]uint64{2: 16}, 20, [2]uint64{}, api.ErrEarly},
		{"the third one told", map[uint64]uint64{3: 0}, 31, [2]uint64{left + 5, right + 7 + 50}, api.OK},
		{"the fourth one told", map[uint64]uint64{4: 3}, 31, [2]uint64{left + 12 + 30, right + 20}, api.OK},
		{"all but the last one told", map[uint64]uint64{1: 2, 2: 2, 3: 2}, 15, [2]uint64{left + 20, right + 12 + 30}, api.OK},
		{"one of each told", map[uint64]uint64{1: 9, 4: 1}, 31, [2]uint64{left + 7 + 30, right + 5 + 20}, api.OK},
		{"all told one too late", map[uint64]uint64{1: 21, 2: 31, 3: 21, 4: 4}, 31, [2]uint64{left + 12, right + 50}, api.OK},
		{"all told one too late, one open", map[uint64]uint64{1: 21, 2: 31, 3: 21, 4: 4}, 30, [2]uint64{}, api.ErrEarly},
		{"others told", map[uint64]uint64{5: 1, 6: 1}, 31, [2]uint64{left + 12, right + 50}, api.OK},
	} {
		n := told(t, c.told)
		if c.e != api.OK {
			wantError(t, "P14.3: End, "+c.name, b, end(n, c.height), c.e)
			continue
		}
		wantEnd(t, c.name, b, n, c.height, c.want)
	}
}

// P14.3: eight payments, each way they may end.
func TestEndEachWay(t *testing.T) {
	s := state(200, [2]uint64{}, [2]uint64{})
	for i := range uint64(8) {
		s.Conds = append(s.Conds, cond(i, api.Side(i%3%2), 1<<i, 20))
	}
	b := done(t, bondOf(t, [2]uint64{1000, 1000}), fight(signed(t, s), 10))
	for ways := range 256 {
		out := [2]uint64{1000, 1000}
		at := map[uint64]uint64{}
		for i, c := range s.Conds {
			if ways>>i&1 == 1 {
				at[c.Id] = uint64(20 - i)
				out[c.By] -= c.Amount
				out[1-c.By] += c.Amount
			}
		}
		wantEnd(t, "each way", b, told(t, at), 21, out)
	}
}

// P14.3: what was paid by Draw isn't paid again; Put, Paid and Best stay.
func TestEndBehindDraw(t *testing.T) {
	d := signed(t, state(4, [2]uint64{5, 1}, [2]uint64{6, 8}))
	live := bondOf(t, [2]uint64{30, 40})
	// Free of Left are 30+1-5-6, of Right 40+5-1-8.
	for _, c := range []struct {
		name  string
		draws []act
		want  [2]uint64
	}{
		{"nothing drawn", nil, [2]uint64{20 + 6, 36 + 8}},
		{"Left drew", []act{draw(api.Left, d)}, [2]uint64{20, 36 + 8}},
		{"Right drew", []act{draw(api.Right, d)}, [2]uint64{20 + 6, 36}},
		{"both drew", []act{draw(api.Left, d), draw(api.Right, d)}, [2]uint64{20, 36}},
		{"Left drew behind Fight", []act{fight(d, 10), draw(api.Left, d)}, [2]uint64{20, 36 + 8}},
		{"both drew behind Fight", []act{fight(d, 10), draw(api.Left, d), draw(api.Right, deed.First(id))}, [2]uint64{20, 36}},
		{"part was drawn", []act{draw(api.Left, taking(t, 2, 4, 5)), draw(api.Right, taking(t, 3, 4, 7))}, [2]uint64{20 + 2, 36 + 1}},
	} {
		b := done(t, live, c.draws...)
		if b.Phase == bond.Live {
			b = done(t, b, fight(d, 10))
		}
		wantEnd(t, c.name, b, nil, 15, c.want)
		ended := done(t, b, end(nil, 15))
		if ended.Put != b.Put || ended.Paid != b.Paid || !sameState(ended.Best, b.Best) || ended.Until != b.Until {
			t.Errorf("P14.3: %s: %v was %v", c.name, ended, b)
		}
	}
}

// P14.3: what was put in behind Fight is paid, too; and the biggest amounts.
func TestEndAmounts(t *testing.T) {
	fought := done(t, bondOf(t, [2]uint64{10, 0}), fight(deed.First(id), 10))
	wantEnd(t, "more put in", done(t, fought, more(api.Left, 3), more(api.Right, 4)), nil, 15, [2]uint64{13, 4})
	wantEnd(t, "nothing put in", done(t, bondOf(t, [2]uint64{}), fight(deed.First(id), 10)), nil, 15, [2]uint64{})
	for side := range 2 {
		var put, other [2]uint64
		put[side], other[1-side] = top, top
		b := done(t, bondOf(t, put), fight(signed(t, state(1, [2]uint64{}, [2]uint64{}, cond(1, api.Side(side), top, 0))), 10))
		wantEnd(t, "the most, void", b, nil, 15, put)
		wantEnd(t, "the most, paid", b, told(t, map[uint64]uint64{1: 0}), 15, other)
	}
}

// P14.3: a nil notary was told nothing.
func TestEndNilNotary(t *testing.T) {
	b := done(t, bondOf(t, [2]uint64{10, 0}), fight(signed(t, state(1, [2]uint64{}, [2]uint64{}, cond(1, 0, 4, 20))), 10))
	wantError(t, "P14.3: End with a nil notary, one open", b, end(nil, 20), api.ErrEarly)
	wantEnd(t, "a nil notary", b, nil, 21, [2]uint64{10, 0})
	wantError(t, "P14.3: End with a nil notary, Live", bondOf(t, [2]uint64{10, 0}), end(nil, 20), api.ErrState)
}

// P14.3: a Best that may not be any more, of what was put in since, has Split's error, behind all others.
func TestEndSplit(t *testing.T) {
	// Left can put in 10 more, Right 5, till what it has comes above the end of the numbers.
	far := signed(t, state(4, [2]uint64{top - 45, top - 40}, [2]uint64{}, cond(1, 0, 2, 20)))
	b := done(t, bondOf(t, [2]uint64{30, 40}), fight(far, 10))
	wantEnd(t, "far moved", b, nil, 21, [2]uint64{35, 35})
	wantEnd(t, "far moved, with as much put in as may be", done(t, b, more(api.Left, 10), more(api.Right, 5)), nil, 21, [2]uint64{45, 40})
	for side, amount := range []uint64{11, 6} {
		above := done(t, b, more(api.Side(side), amount))
		wantError(t, "P14.3: End, too early ahead of Split's", above, end(nil, 14), api.ErrEarly)
		wantError(t, "P14.3: End, open ahead of Split's", above, end(nil, 20), api.ErrEarly)
		wantError(t, "P14.3: End, Split's", above, end(nil, 21), api.ErrOver)
		wantError(t, "P14.3: End, Split's", above, end(told(t, map[uint64]uint64{1: 2}), 15), api.ErrOver)
	}
}

// P14.4: what is Shut stays so, and Until stays once it is Fought.
func TestShutStays(t *testing.T) {
	b := eachPhase(t)["Shut"]
	d := signed(t, state(9, [2]uint64{}, [2]uint64{5, 6}))
	for _, do := range []act{more(0, 1), draw(0, d), draw(1, d), draw(0, deed.First(id)), fight(d, 1), show(d, 1), fight(deed.First(id), top), show(deed.First(id), top), end(nil, 0), end(nil, top)} {
		wantError(t, "P14.4: a call on one that is Shut", b, do, api.ErrClosed)
	}
	fought := eachPhase(t)["Fought"]
	for _, do := range []act{more(0, 1), more(1, 2), draw(0, d), draw(1, d), show(d, 1)} {
		if got := done(t, fought, do); got.Until != fought.Until || got.Phase != bond.Fought {
			t.Errorf("P14.4: Until is %d, was %d", got.Until, fought.Until)
		}
	}
	if !slices.Equal(fought.Rule, b.Rule) {
		t.Error("P14.3: the rule was turned")
	}
}
