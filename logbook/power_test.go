package logbook_test

import (
	"maps"
	"reflect"
	"strconv"
	"testing"

	"tollhouse/api"
	"tollhouse/logbook"
	"tollhouse/slab"
)

// story is what was done up to the power's going, or to the end, and which contents a logbook opened then may have.
type story struct {
	slabs [2]*slab.Slab
	may   []things
}

// note notes what is there behind a call. What lasts leaves nothing else possible; what doesn't is one more possibility.
func (s *story) note(has things, lasts bool) {
	if lasts {
		s.may = nil
	}
	s.may = append(s.may, maps.Clone(has))
}

// tell does some calls of all kinds, as far as they are OK, on slabs with fuses; beginning with an Open.
func tell(slabs [2]*slab.Slab, was things, calls int) story {
	s := story{slabs: slabs, may: []things{was}}
	l, e := logbook.Open(slabs[0], slabs[1])
	if e != api.OK {
		return s
	}
	has := maps.Clone(was)
	for i, c := range []struct {
		name, value string
	}{
		{"+x", "1"}, {"+y", ""}, {"sync", ""}, {"+x", "33"}, {"-y", ""}, {"+z", "\xa5\x00"}, {"compact", ""}, {"+y", "9"}, {"-x", ""}, {"sync", ""}, {"-z", ""}, {"+", ""}, {"compact", ""}, {"+x", "\x00"}, {"sync", ""}, {"open", ""}, {"+u", "5"}, {"-y", ""},
	} {
		if i == calls {
			break
		}
		lasts := true
		switch {
		case c.name == "sync":
			e = l.Sync()
		case c.name == "compact":
			e = l.Compact()
		case c.name == "open":
			l, e = logbook.Open(slabs[0], slabs[1])
		case c.name[0] == '-':
			e, lasts = l.Drop(c.name[1:]), false
			if e == api.OK {
				delete(has, c.name[1:])
			}
		default:
			e, lasts = l.Put(c.name[1:], []byte(c.value)), false
			if e == api.OK {
				has[c.name[1:]] = c.value
			}
		}
		if e != api.OK {
			break
		}
		s.note(has, lasts)
	}
	return s
}

// trace is what a slab has: it can be made once more, as often as it is crashed.
type trace struct {
	last, loose string
	down        bool
}

// traceOf uses up a slab.
func traceOf(s *slab.Slab) trace {
	loose, down := s.Loose(), s.Down()
	s.Crash(loose, 0)
	p, _ := s.Read()
	return trace{last: string(p[:len(p)-loose]), loose: string(p[len(p)-loose:]), down: down}
}

// crashed is such a slab behind a crash.
func (x trace) crashed(keep, zeros int) *slab.Slab {
	s := slab.New()
	s.Append([]byte(x.last))
	s.Sync()
	s.Append([]byte(x.loose))
	s.Crash(keep, zeros)
	return s
}

// check asks that what is opened again is one of what may be, that it goes on, and that it lasts.
func (s *story) check(t *testing.T, name string, a, b *slab.Slab) {
	t.Helper()
	l, e := logbook.Open(a, b)
	if e != api.OK {
		t.Fatalf("P17.3: %s: Open: %d", name, e)
	}
	has := imageOf(l).has
	if !s.allows(has) {
		t.Fatalf("P17.3: %s: %q; want one of %q", name, has, s.may)
	}
	must(t, l.Put("later", []byte("on")), l.Sync(), l.Put("lost", nil))
	has["later"] = "on"
	a.Crash(0, 0)
	b.Crash(0, 0)
	want(t, name+", and on", opened(t, a, b), l.Life()+1, has)
}

func (s *story) allows(has things) bool {
	for _, may := range s.may {
		if reflect.DeepEqual(may, has) {
			return true
		}
	}
	return false
}

// crashes hands all that may be kept of a slab's loose bytes, with zeros behind.
func crashes(x trace, sparse bool, do func(keep, zeros int)) {
	n := len(x.loose)
	for keep := range n + 1 {
		for zeros := range n - keep + 1 {
			if !sparse || zeros <= 1 || zeros == n-keep {
				do(keep, zeros)
			}
		}
	}
}

// others are the ways in which the other slab may be crashed, too.
func (x trace) others() []*slab.Slab {
	n := len(x.loose)
	l := []*slab.Slab{x.crashed(0, 0), x.crashed(n, 0), x.crashed(n/2, n)}
	if !x.down {
		s := slab.New()
		s.Append([]byte(x.last))
		s.Sync()
		s.Append([]byte(x.loose))
		l = append(l, s) // its power didn't go
	}
	return l
}

// paired are two slabs, by which place the first of them is for.
func paired(which int, x, y *slab.Slab) [2]*slab.Slab {
	if which == 1 {
		return [2]*slab.Slab{y, x}
	}
	return [2]*slab.Slab{x, y}
}

// before are slabs on which a story begins, and what is told there: empty ones, and ones with a past.
func before(t *testing.T, past bool) ([2]*slab.Slab, things) {
	t.Helper()
	slabs := [2]*slab.Slab{slab.New(), slab.New()}
	if !past {
		return slabs, things{}
	}
	l := opened(t, slabs[0], slabs[1])
	must(t, l.Put("old", []byte("7")), l.Put("y", []byte("8")), l.Compact())
	return slabs, things{"old": "7", "y": "8"}
}

// P17.3: power goes at each step, of either slab; each number of loose bytes is kept, each number of zeros is behind them.
func TestPowerGoes(t *testing.T) {
	checked := 0
	for _, past := range []bool{false, true} {
		for which := range 2 {
			for fuse := 0; ; fuse++ {
				slabs, was := before(t, past)
				must(t, slabs[which].Fuse(fuse))
				s := tell(slabs, was, 99)
				gone := slabs[which].Down()
				traces := [2]trace{traceOf(slabs[0]), traceOf(slabs[1])}
				crashes(traces[which], false, func(keep, zeros int) {
					for i, other := range traces[1-which].others() {
						name := "slab " + strconv.Itoa(which) + ", fuse " + strconv.Itoa(fuse) + ", crash " + strconv.Itoa(keep) + " " + strconv.Itoa(zeros) + ", other " + strconv.Itoa(i)
						pair := paired(which, traces[which].crashed(keep, zeros), other)
						s.check(t, name, pair[0], pair[1])
						checked++
					}
				})
				if !gone {
					break
				}
			}
		}
	}
	if checked < 5000 {
		t.Errorf("only %d times", checked)
	}
}

// P17.3: both slabs crash behind each call, without a fuse.
func TestCrashBehindEachCall(t *testing.T) {
	for calls := range 19 {
		slabs, was := before(t, true)
		s := tell(slabs, was, calls)
		traces := [2]trace{traceOf(slabs[0]), traceOf(slabs[1])}
		for which := range 2 {
			crashes(traces[which], false, func(keep, zeros int) {
				for _, other := range traces[1-which].others() {
					pair := paired(which, traces[which].crashed(keep, zeros), other)
					s.check(t, strconv.Itoa(calls)+" calls", pair[0], pair[1])
				}
			})
		}
	}
}

// P17.3: power goes once more while the logbook is opened again, and once more.
func TestPowerGoesInOpen(t *testing.T) {
	for which := range 2 {
		for fuse := range 24 {
			slabs, was := before(t, true)
			must(t, slabs[which].Fuse(fuse))
			s := tell(slabs, was, 99)
			traces := [2]trace{traceOf(slabs[0]), traceOf(slabs[1])}
			crashes(traces[which], true, func(keep, zeros int) {
				for again := range 18 {
					pair := paired(which, traces[which].crashed(keep, zeros), traces[1-which].crashed(keep, 0))
					for _, f := range []int{again % 3, again / 3 % 3} {
						must(t, pair[0].Fuse(f), pair[1].Fuse(f))
						if _, e := logbook.Open(pair[0], pair[1]); e != api.ErrDown {
							t.Fatalf("P17.1: %d", e)
						}
						half := []int{0, 9999, 15}[(again+f)%3]
						must(t, pair[0].Crash(half, again/9*half), pair[1].Crash(half, again/9*half))
					}
					s.check(t, "power that goes in an Open", pair[0], pair[1])
				}
			})
		}
	}
}

// P17.3: the logbook's own pieces: which of its states is there hangs on how many records are whole.
func TestRecordByRecord(t *testing.T) {
	text := ""
	var ends []int
	states := []things{{}}
	has := things{}
	for i, put := range []string{"a", "b", "a", "c"} {
		value := string([]byte{byte(i)})
		has[put] = value
		states = append(states, maps.Clone(has))
		text += rec(entry, put, value)
		ends = append(ends, len(text))
	}
	for keep := range len(text) + 1 {
		for zeros := range len(text) - keep + 1 {
			a, b := slab.New(), slab.New()
			l := opened(t, a, b)
			for i, put := range []string{"a", "b", "a", "c"} {
				must(t, l.Put(put, []byte{byte(i)}))
			}
			must(t, a.Crash(keep, zeros))
			entire := 0
			for _, end := range ends {
				if keep >= end {
					entire++
				}
			}
			want(t, "record by record", opened(t, a, b), 2, states[entire])
		}
	}
}
