package pact_test

import (
	"slices"
	"testing"

	"tollhouse/api"
	"tollhouse/pact"
)

// bools are verdicts, one for each letter: d is done.
func bools(text string) []bool {
	var l []bool
	for _, r := range text {
		l = append(l, r == 'd')
	}
	return l
}

// P12.2: what each side has at last.
func TestSplit(t *testing.T) {
	none := [2]uint64{}
	l := []api.Cond{cond(1, 0, 5), cond(2, 1, 20), cond(3, 0, 7), cond(4, 1, 30)}
	s := state(9, [2]uint64{4, 3}, [2]uint64{6, 8}, l...)
	put := [2]uint64{100, 200}
	// Free are 100+3-4-6-12 and 200+4-3-8-50.
	const left, right = 81, 143
	for _, c := range []struct {
		name      string
		s         api.State
		put, paid [2]uint64
		done      string
		want      [2]uint64
	}{
		{"a new one", pact.New(3), none, none, "", none},
		{"what was put in", pact.New(3), [2]uint64{10, 7}, none, "", [2]uint64{10, 7}},
		{"what was moved", state(1, [2]uint64{4, 1}, none), [2]uint64{10, 7}, none, "", [2]uint64{7, 10}},
		{"none done", s, put, none, "----", [2]uint64{left + 6 + 12, right + 8 + 50}},
		{"all done", s, put, none, "dddd", [2]uint64{left + 6 + 50, right + 8 + 12}},
		{"Left's first one done", s, put, none, "d---", [2]uint64{left + 6 + 7, right + 8 + 50 + 5}},
		{"Right's last one done", s, put, none, "---d", [2]uint64{left + 6 + 12 + 30, right + 8 + 20}},
		{"one of each done", s, put, none, "-dd-", [2]uint64{left + 6 + 5 + 20, right + 8 + 30 + 7}},
		{"some was paid out", s, put, [2]uint64{2, 5}, "----", [2]uint64{left + 4 + 12, right + 3 + 50}},
		{"all was paid out", s, put, [2]uint64{6, 8}, "dddd", [2]uint64{left + 50, right + 12}},
		{"to Left alone", s, put, [2]uint64{6, 0}, "----", [2]uint64{left + 12, right + 8 + 50}},
		{"the most", state(1, none, none), [2]uint64{top, top}, none, "", [2]uint64{top, top}},
		{"the most taken", state(1, none, [2]uint64{top, top}), [2]uint64{top, top}, [2]uint64{top - 1, top}, "", [2]uint64{1, 0}},
		{"the most held, not done", state(1, none, none, cond(1, 0, top), cond(2, 1, top)), [2]uint64{top, top}, none, "--", [2]uint64{top, top}},
		{"the most held, done", state(1, none, none, cond(1, 0, top), cond(2, 1, top)), [2]uint64{top, top}, none, "dd", [2]uint64{top, top}},
		{"up to the most", state(1, none, none, cond(1, 0, 5)), [2]uint64{5, top - 5}, none, "d", [2]uint64{0, top}},
		{"up to the most, for some was paid out", state(1, none, [2]uint64{0, 2}, cond(1, 0, 5)), [2]uint64{5, top - 3}, [2]uint64{0, 2}, "d", [2]uint64{0, top}},
	} {
		for range 2 {
			done := bools(c.done)
			got, e := pact.Split(c.s, c.put, c.paid, done...)
			if got != c.want || e != api.OK {
				t.Errorf("P12.2: Split, %s: %d, %d; want %d", c.name, got, e, c.want)
			}
			if !slices.Equal(done, bools(c.done)) {
				t.Errorf("R3: Split, %s: the verdicts were turned", c.name)
			}
		}
	}
}

// P12.2: which error of Split is told, in the chapter's order.
func TestSplitErrors(t *testing.T) {
	none := [2]uint64{}
	two := state(9, none, [2]uint64{6, 8}, cond(1, 0, 5), cond(2, 1, 20))
	put := [2]uint64{100, 100}
	for _, c := range []struct {
		name      string
		s         api.State
		put, paid [2]uint64
		done      string
		want      api.Errno
	}{
		{"no verdict for two", two, put, none, "", api.ErrArg},
		{"one verdict for two", two, put, none, "d", api.ErrArg},
		{"three verdicts for two", two, put, none, "ddd", api.ErrArg},
		{"a verdict for none", pact.New(3), put, none, "-", api.ErrArg},
		{"256 verdicts for none", pact.New(3), put, none, string(make([]byte, 256)), api.ErrArg},
		{"more paid out to Left", two, put, [2]uint64{7, 0}, "--", api.ErrUnder},
		{"more paid out to Right", two, put, [2]uint64{0, 9}, "--", api.ErrUnder},
		{"the most paid out", two, put, [2]uint64{top, top}, "--", api.ErrUnder},
		{"paid out of nothing taken", pact.New(3), put, [2]uint64{0, 1}, "", api.ErrUnder},
		{"Left has one above", state(1, none, none, cond(1, 1, 5)), [2]uint64{top - 4, 5}, none, "d", api.ErrOver},
		{"Right has one above", state(1, none, none, cond(1, 0, 5)), [2]uint64{5, top - 4}, none, "d", api.ErrOver},
		{"Left has one above by two", state(1, none, none, cond(1, 1, 5), cond(2, 1, 1)), [2]uint64{top - 5, 6}, none, "dd", api.ErrOver},
		{"Left has one above, with what it has taken", state(1, none, [2]uint64{9, 0}, cond(1, 1, 5)), [2]uint64{top - 4, 5}, none, "d", api.ErrOver},
		{"Left would come round to enough", state(1, none, none, cond(1, 1, top)), [2]uint64{top, top}, none, "d", api.ErrOver},
		{"the state, ahead of the verdicts", state(201, none, none), put, none, "d", api.ErrLimit},
		{"a payment by no side, ahead of the verdicts", state(1, none, none, cond(1, 2, 1)), put, none, "", api.ErrArg},
		{"one Id, ahead of the verdicts", state(1, none, none, cond(1, 0, 1), cond(1, 1, 1)), put, none, "", api.ErrTwice},
		{"below, ahead of the verdicts", state(1, [2]uint64{0, 101}, none), put, none, "d", api.ErrUnder},
		{"above, ahead of the verdicts", state(1, [2]uint64{1, 0}, none), [2]uint64{1, top}, none, "d", api.ErrOver},
		{"the verdicts, ahead of what was paid out", two, put, [2]uint64{7, 9}, "d", api.ErrArg},
		{"the verdicts, ahead of one above", state(1, none, none, cond(1, 1, 5)), [2]uint64{top, 5}, none, "dd", api.ErrArg},
		{"Left's one above, ahead of what was paid out to Right", state(1, none, none, cond(1, 1, 5)), [2]uint64{top, 5}, [2]uint64{0, 1}, "d", api.ErrOver},
		{"what was paid out to Left, ahead of Right's one above", state(1, none, none, cond(1, 0, 5)), [2]uint64{5, top}, [2]uint64{1, 0}, "d", api.ErrUnder},
		{"what was paid out to Left, ahead of its one above", state(1, none, none, cond(1, 1, 5)), [2]uint64{top, 5}, [2]uint64{1, 0}, "d", api.ErrUnder},
		{"what was paid out to Right, ahead of its one above", state(1, none, none, cond(1, 0, 5)), [2]uint64{5, top}, [2]uint64{0, 1}, "d", api.ErrUnder},
	} {
		before := twin(c.s)
		got, e := pact.Split(c.s, c.put, c.paid, bools(c.done)...)
		if got != none || e != c.want {
			t.Errorf("P12.2: Split, %s: %d, %d; want %d", c.name, got, e, c.want)
		}
		if !same(c.s, before) {
			t.Errorf("R3: Split, %s: the state given was turned", c.name)
		}
	}
}

// P12.2: eight payments, each way they may end.
func TestSplitEachWay(t *testing.T) {
	l := alike(8, 0, 1)
	for i := range l {
		l[i].By, l[i].Amount = api.Side(i%3%2), 1<<i
	}
	s := state(200, [2]uint64{}, [2]uint64{}, l...)
	for ways := range 256 {
		want := [2]uint64{1000, 1000}
		done := make([]bool, 8)
		for i, c := range l {
			done[i] = ways>>i&1 == 1
			if done[i] {
				want[c.By] -= c.Amount
				want[1-c.By] += c.Amount
			}
		}
		if got, e := pact.Split(s, [2]uint64{1000, 1000}, [2]uint64{}, done...); got != want || e != api.OK {
			t.Errorf("P12.2: Split by %v: %d, %d; want %d", done, got, e, want)
		}
	}
}
