package slab_test

import (
	"bytes"
	"math"
	"strings"
	"testing"

	"tollhouse/api"
	"tollhouse/slab"
)

// image is all that a slab tells.
type image struct {
	text  string
	e     api.Errno
	loose int
	steps int
	down  bool
}

func imageOf(s *slab.Slab) image {
	p, e := s.Read()
	return image{text: string(p), e: e, loose: s.Loose(), steps: s.Steps(), down: s.Down()}
}

// must asks that calls were OK.
func must(t *testing.T, l ...api.Errno) {
	t.Helper()
	for i, e := range l {
		if e != api.OK {
			t.Fatalf("P16.1 to P16.3: the call %d: %d", i, e)
		}
	}
}

// made is a slab with bytes that last, and loose ones, behind two steps.
func made(t *testing.T, last, loose string) *slab.Slab {
	t.Helper()
	s := slab.New()
	must(t, s.Append([]byte(last)), s.Sync())
	if loose != "" {
		must(t, s.Append([]byte(loose)))
	}
	return s
}

// want holds a slab that has power against the bytes that last, the loose ones, and the steps done.
func want(t *testing.T, name string, s *slab.Slab, last, loose string, steps int) {
	t.Helper()
	if got, w := imageOf(s), (image{text: last + loose, loose: len(loose), steps: steps}); got != w {
		t.Errorf("P16.1 to P16.3: %s: %q, %d, %d loose, %d steps, down: %t; want %q, %d loose, %d steps", name, short(got.text), got.e, got.loose, got.steps, got.down, short(w.text), w.loose, w.steps)
	}
}

// short is the end of a long text.
func short(s string) string { return s[max(0, len(s)-40):] }

// crashed asks that a crash was OK.
func crashed(t *testing.T, s *slab.Slab, keep, zeros int) {
	t.Helper()
	if e := s.Crash(keep, zeros); e != api.OK {
		t.Errorf("P16.3: Crash(%d, %d): %d", keep, zeros, e)
	}
}

// The chapter's example.
func TestExample(t *testing.T) {
	s := made(t, "ab", "cd")
	crashed(t, s, 1, 1)
	want(t, "the example", s, "abc\x00", "", 3)
}

// P16.1: the greatest size is the chapter's.
func TestMaxSize(t *testing.T) {
	if slab.MaxSize != 262144 {
		t.Errorf("P16.1: MaxSize is %d", slab.MaxSize)
	}
}

// P16.1: a new slab is empty, and has no fuse.
func TestNew(t *testing.T) {
	s := slab.New()
	want(t, "new", s, "", "", 0)
	for range 1000 {
		must(t, s.Append(nil), s.Sync(), s.Erase())
	}
	want(t, "3000 steps later", s, "", "", 3000)
	if other := slab.New(); other == s {
		t.Error("P16.1: two slabs are one")
	}
	must(t, s.Append([]byte("a")))
	want(t, "another one", slab.New(), "", "", 0)
}

// P16.1, P16.2: step by step: which bytes are there, and which of them are loose.
func TestSteps(t *testing.T) {
	s := slab.New()
	for i, c := range []struct {
		do          string
		last, loose string
	}{
		{"+ab", "", "ab"},
		{"+", "", "ab"},
		{"+cd", "", "abcd"},
		{"sync", "abcd", ""},
		{"sync", "abcd", ""},
		{"+ef", "abcd", "ef"},
		{"+\x00", "abcd", "ef\x00"},
		{"sync", "abcdef\x00", ""},
		{"+", "abcdef\x00", ""},
		{"+g", "abcdef\x00", "g"},
		{"erase", "", ""},
		{"sync", "", ""},
		{"+h", "", "h"},
		{"erase", "", ""},
		{"erase", "", ""},
		{"+\xff", "", "\xff"},
		{"sync", "\xff", ""},
		{"+ij", "\xff", "ij"},
	} {
		var e api.Errno
		switch c.do {
		case "sync":
			e = s.Sync()
		case "erase":
			e = s.Erase()
		default:
			e = s.Append([]byte(c.do[1:]))
		}
		must(t, e)
		want(t, c.do, s, c.last, c.loose, i+1)
	}
}

// P16.1: what is no step: it isn't counted, burns no fuse, and turns nothing.
func TestNoSteps(t *testing.T) {
	s := made(t, "ab", "cd")
	must(t, s.Fuse(1))
	for range 9 {
		imageOf(s)
		must(t, s.Fuse(1))
	}
	if e := s.Append(make([]byte, slab.MaxSize-3)); e != api.ErrFull {
		t.Errorf("P16.1: %d", e)
	}
	want(t, "no steps", s, "ab", "cd", 3)
	must(t, s.Sync())
	want(t, "the one step of the fuse", s, "abcd", "", 4)
	if e := s.Sync(); e != api.ErrDown || s.Steps() != 4 {
		t.Errorf("P16.2: %d, %d steps", e, s.Steps())
	}
	crashed(t, s, 0, 0)
	crashed(t, s, 0, 0)
	want(t, "crashes are no steps", s, "abcd", "", 4)
}

// P16.1: up to MaxSize bytes, lasting and loose ones together; no part of what is too much is laid.
func TestFull(t *testing.T) {
	const most = slab.MaxSize
	for _, c := range []struct {
		last, loose, more int
		e                 api.Errno
	}{
		{0, 0, most - 1, api.OK},
		{0, 0, most, api.OK},
		{0, 0, most + 1, api.ErrFull},
		{0, 0, 2*most + 7, api.ErrFull},
		{most - 1, 0, 0, api.OK},
		{most - 1, 0, 1, api.OK},
		{most - 1, 0, 2, api.ErrFull},
		{0, most - 1, 1, api.OK},
		{0, most - 1, 2, api.ErrFull},
		{most, 0, 0, api.OK},
		{most, 0, 1, api.ErrFull},
		{0, most, 0, api.OK},
		{0, most, 1, api.ErrFull},
		{most / 2, most/2 - 1, 0, api.OK},
		{most / 2, most/2 - 1, 1, api.OK},
		{most / 2, most/2 - 1, 2, api.ErrFull},
		{1, most - 1, 0, api.OK},
		{1, most - 1, 1, api.ErrFull},
		{1, most - 1, most, api.ErrFull},
		{most, 0, most, api.ErrFull},
	} {
		last, loose, more := strings.Repeat("l", c.last), strings.Repeat("o", c.loose), strings.Repeat("m", c.more)
		s := made(t, last, loose)
		steps := s.Steps()
		if e := s.Append([]byte(more)); e != c.e {
			t.Errorf("P16.1: %d and %d bytes, %d more: %d; want %d", c.last, c.loose, c.more, e, c.e)
		}
		if c.e == api.OK {
			loose += more
			steps++
		}
		want(t, "full", s, last, loose, steps)
	}
}

// P16.1: what is full has room again behind an erase, or a crash.
func TestRoomAgain(t *testing.T) {
	all := strings.Repeat("x", slab.MaxSize)
	s := made(t, all, "")
	if e := s.Append([]byte("a")); e != api.ErrFull {
		t.Errorf("P16.1: %d", e)
	}
	must(t, s.Erase(), s.Append([]byte(all)))
	want(t, "erased", s, "", all, 4)
	crashed(t, s, slab.MaxSize-9, 4)
	if a, b := s.Append([]byte("sixsix")), s.Append([]byte("fives")); a != api.ErrFull || b != api.OK {
		t.Errorf("P16.1: behind a crash: %d, %d", a, b)
	}
	want(t, "crashed", s, all[9:]+"\x00\x00\x00\x00", "fives", 5)
}

// step is one of the three kinds of steps.
type step struct {
	name string
	do   func(*slab.Slab) api.Errno
}

var steps = []step{
	{"Append", func(s *slab.Slab) api.Errno { return s.Append([]byte("x")) }},
	{"Append of nothing", func(s *slab.Slab) api.Errno { return s.Append(nil) }},
	{"Sync", (*slab.Slab).Sync},
	{"Erase", (*slab.Slab).Erase},
}

// behind is which bytes last, and which are loose, behind a step.
func behind(name, last, loose string) (string, string) {
	switch name {
	case "Append":
		return last, loose + "x"
	case "Sync":
		return last + loose, ""
	case "Erase":
		return "", ""
	}
	return last, loose
}

// P16.2: a fuse lets so many steps be done; the next one isn't, and the power is gone.
func TestFuse(t *testing.T) {
	for _, fuse := range []int{0, 1, 2, 3, 7, 100} {
		for _, x := range steps {
			s := made(t, "ab", "cd")
			must(t, s.Fuse(fuse))
			last, loose := "ab", "cd"
			for i := range fuse {
				if e := x.do(s); e != api.OK {
					t.Fatalf("P16.2: the fuse %d: %s %d: %d", fuse, x.name, i, e)
				}
				last, loose = behind(x.name, last, loose)
				want(t, x.name, s, last, loose, 3+i+1)
			}
			if e := x.do(s); e != api.ErrDown {
				t.Errorf("P16.2: the fuse %d: %s at last: %d", fuse, x.name, e)
			}
			if got, w := imageOf(s), (image{e: api.ErrDown, loose: len(loose), steps: 3 + fuse, down: true}); got != w {
				t.Errorf("P16.2: the fuse %d, %s: %v; want %v", fuse, x.name, got, w)
			}
			crashed(t, s, len(loose), 0)
			want(t, "what wasn't done, of "+x.name, s, last+loose, "", 3+fuse)
		}
	}
}

// P16.2: a fuse burns by steps of all kinds.
func TestFuseOfAllKinds(t *testing.T) {
	s := made(t, "ab", "")
	must(t, s.Fuse(4))
	for _, x := range steps {
		must(t, x.do(s))
	}
	if e := s.Sync(); e != api.ErrDown || !s.Down() || s.Steps() != 6 {
		t.Errorf("P16.2: %d, %t, %d steps", e, s.Down(), s.Steps())
	}
}

// P16.2: below 0 there is no fuse; a newer fuse is put in the place of the one before.
func TestFuseAnew(t *testing.T) {
	for _, below := range []int{-1, -2, -100, math.MinInt + 1, math.MinInt} {
		s := made(t, "ab", "")
		must(t, s.Fuse(0), s.Fuse(below))
		for range 9 {
			must(t, s.Append([]byte("c")), s.Sync())
		}
		want(t, "no fuse", s, "abccccccccc", "", 20)
	}
	s := made(t, "", "")
	must(t, s.Fuse(math.MaxInt), s.Sync(), s.Sync(), s.Fuse(2), s.Sync(), s.Fuse(3), s.Sync(), s.Sync(), s.Sync())
	if e := s.Sync(); e != api.ErrDown || s.Steps() != 8 {
		t.Errorf("P16.2: %d, %d steps", e, s.Steps())
	}
}

// P16.2: once the power is gone, no call but Crash does anything.
func TestDown(t *testing.T) {
	s := made(t, "ab", "cde")
	must(t, s.Fuse(0))
	if s.Down() {
		t.Error("P16.2: a fuse of 0 alone doesn't let the power go")
	}
	if e := s.Append([]byte("no")); e != api.ErrDown {
		t.Errorf("P16.2: %d", e)
	}
	w := image{e: api.ErrDown, loose: 3, steps: 3, down: true}
	for name, e := range map[string]api.Errno{
		"Append":                      s.Append([]byte("x")),
		"Append of nothing":           s.Append([]byte{}),
		"Append of too much":          s.Append(make([]byte, slab.MaxSize+1)),
		"Append of too much together": s.Append(make([]byte, slab.MaxSize-4)),
		"Sync":                        s.Sync(),
		"Erase":                       s.Erase(),
		"Fuse":                        s.Fuse(9),
		"Fuse of 0":                   s.Fuse(0),
		"no fuse":                     s.Fuse(-1),
	} {
		if e != api.ErrDown {
			t.Errorf("P16.2: %s without power: %d", name, e)
		}
	}
	if p, e := s.Read(); e != api.ErrDown || len(p) != 0 {
		t.Errorf("R2: Read without power: %q, %d", p, e)
	}
	if got := imageOf(s); got != w {
		t.Errorf("P16.2: %v; want %v", got, w)
	}
	crashed(t, s, 2, 0)
	want(t, "power again", s, "abcd", "", 3)
	for range 12 {
		must(t, s.Sync())
	}
}

// P16.1: which error: the power that is gone, then the size, then the fuse.
func TestWhichError(t *testing.T) {
	s := made(t, strings.Repeat("x", slab.MaxSize-1), "")
	must(t, s.Fuse(0))
	for _, many := range []int{2, 3, slab.MaxSize, slab.MaxSize + 1} {
		if e := s.Append(make([]byte, many)); e != api.ErrFull || s.Down() {
			t.Errorf("P16.1: %d bytes that have no room, with the fuse 0: %d, down: %t", many, e, s.Down())
		}
	}
	must(t, s.Fuse(1))
	if e := s.Append(make([]byte, 2)); e != api.ErrFull {
		t.Errorf("P16.1: %d", e)
	}
	must(t, s.Sync())
	if e := s.Append(make([]byte, 1)); e != api.ErrDown || !s.Down() {
		t.Errorf("P16.2: the fuse is 1 less by the Sync, not by what was refused: %d", e)
	}
	if e := s.Append(make([]byte, 2)); e != api.ErrDown {
		t.Errorf("P16.1: too much without power: %d", e)
	}
}

// P16.3: of the loose bytes the first are kept, and behind them are zeros, both within the loose ones.
func TestCrash(t *testing.T) {
	const last = "lasts"
	numbers := []int{math.MinInt, -9, -1, 0, 1, 2, 3, 4, 5, 6, 7, 8, 99, math.MaxInt - 1, math.MaxInt}
	for _, loose := range []string{"", "a", "abcd", "abcdef", "\x00\xff\x00a"} {
		for _, keep := range numbers {
			for _, zeros := range numbers {
				for _, fused := range []bool{false, true} {
					s := made(t, last, loose)
					steps := s.Steps()
					if fused {
						must(t, s.Fuse(0))
						s.Erase()
					}
					crashed(t, s, keep, zeros)
					w := last
					for i := range len(loose) {
						if i < keep {
							w += loose[i : i+1]
						} else if i-max(keep, 0) < zeros {
							w += "\x00"
						}
					}
					want(t, "crashed", s, w, "", steps)
					must(t, s.Append([]byte("on")))
					want(t, "and on", s, w, "on", steps+1)
				}
			}
		}
	}
}

// P16.3: written out.
func TestCrashWrittenOut(t *testing.T) {
	for _, c := range []struct {
		keep, zeros int
		text        string
	}{
		{0, 0, "ab"},
		{-1, -1, "ab"},
		{3, 0, "abcde"},
		{4, 0, "abcde"},
		{4, 4, "abcde"},
		{2, 0, "abcd"},
		{2, 1, "abcd\x00"},
		{2, 9, "abcd\x00"},
		{-5, 2, "ab\x00\x00"},
		{0, 3, "ab\x00\x00\x00"},
		{0, 4, "ab\x00\x00\x00"},
		{1, -1, "abc"},
		{1, 2, "abc\x00\x00"},
	} {
		s := made(t, "ab", "cde")
		crashed(t, s, c.keep, c.zeros)
		want(t, "crashed", s, c.text, "", 3)
	}
}

// P16.3: behind a crash there is no fuse, whether the power was gone or not.
func TestCrashTakesTheFuse(t *testing.T) {
	for _, fuse := range []int{-1, 0, 1, 2, 5} {
		s := made(t, "ab", "cd")
		must(t, s.Fuse(fuse))
		if fuse == 1 {
			must(t, s.Append([]byte("e")))
		}
		if fuse == 2 {
			s.Sync()
			s.Sync()
			s.Sync()
		}
		crashed(t, s, 99, 0)
		steps := s.Steps()
		for range 20 {
			must(t, s.Sync())
		}
		if s.Down() || s.Steps() != steps+20 {
			t.Errorf("P16.3: the fuse %d is still there", fuse)
		}
	}
}

// P16.3: a second crash finds nothing loose.
func TestCrashTwice(t *testing.T) {
	s := made(t, "ab", "cde")
	crashed(t, s, 1, 1)
	crashed(t, s, 0, 0)
	want(t, "twice", s, "abc\x00", "", 3)
	crashed(t, s, 5, 5)
	want(t, "thrice", s, "abc\x00", "", 3)
	must(t, s.Append([]byte("fg")))
	crashed(t, s, 0, 1)
	want(t, "with loose ones again", s, "abc\x00\x00", "", 4)
}

// P16.4: what was synced stays at its place, behind any crash.
func TestSyncedLasts(t *testing.T) {
	for fuse := range 12 {
		for keep := range 4 {
			for zeros := range 4 {
				s := slab.New()
				must(t, s.Fuse(fuse))
				laid, synced := "", ""
				for i := range 12 {
					text := strings.Repeat(string(rune('a'+i)), i%3)
					if s.Append([]byte(text)) == api.OK {
						laid += text
					}
					if i%2 == 1 && s.Sync() == api.OK {
						synced = laid
					}
					if i == 6 {
						crashed(t, s, keep, zeros)
						p, _ := s.Read()
						if !bytes.HasPrefix(p, []byte(synced)) {
							t.Errorf("P16.4: %q was synced, %q is there", synced, p)
						}
						laid, synced = string(p), string(p)
					}
				}
				crashed(t, s, keep, zeros)
				if p, e := s.Read(); e != api.OK || !bytes.HasPrefix(p, []byte(synced)) {
					t.Errorf("P16.4: %q was synced, %q is there: %d", synced, p, e)
				}
			}
		}
	}
}

// P16.4: what was erased isn't there behind a crash, also if it was synced, and if nothing was synced since.
func TestErasedIsGone(t *testing.T) {
	s := made(t, "ab", "cd")
	must(t, s.Erase())
	crashed(t, s, 9, 9)
	want(t, "erased", s, "", "", 4)
	must(t, s.Append([]byte("ef")))
	crashed(t, s, 0, 1)
	want(t, "and nothing of before comes back", s, "\x00", "", 5)
}

// R1: a nil slab: ErrNil, and zeros.
func TestNil(t *testing.T) {
	var s *slab.Slab
	for name, e := range map[string]api.Errno{
		"Append":             s.Append([]byte("x")),
		"Append of nothing":  s.Append(nil),
		"Append of too much": s.Append(make([]byte, slab.MaxSize+1)),
		"Sync":               s.Sync(),
		"Erase":              s.Erase(),
		"Fuse":               s.Fuse(3),
		"no fuse":            s.Fuse(-3),
		"Crash":              s.Crash(1, 1),
		"Crash below 0":      s.Crash(-1, -1),
	} {
		if e != api.ErrNil {
			t.Errorf("R1: %s of nil: %d", name, e)
		}
	}
	if p, e := s.Read(); len(p) != 0 || e != api.ErrNil {
		t.Errorf("R1: Read of nil: %q, %d", p, e)
	}
	if s.Loose() != 0 || s.Steps() != 0 || s.Down() {
		t.Errorf("P16.2: of nil: %d, %d, %t", s.Loose(), s.Steps(), s.Down())
	}
}

// R1: a slab that New didn't make panics at no call.
func TestForeign(t *testing.T) {
	for _, x := range steps {
		s := new(slab.Slab)
		x.do(s)
		imageOf(s)
		s.Fuse(5)
		s.Crash(math.MaxInt, math.MaxInt)
		x.do(s)
		imageOf(s)
	}
}
