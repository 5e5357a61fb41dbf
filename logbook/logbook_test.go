package logbook_test

import (
	"encoding/binary"
	"maps"
	"reflect"
	"slices"
	"strings"
	"testing"

	"tollhouse/api"
	"tollhouse/logbook"
	"tollhouse/slab"
)

// The kinds of records, as the chapter numbers them.
const (
	begin = 1
	entry = 2
	gone  = 3
	seal  = 4
)

// rec is a record, as the chapter has it.
func rec(kind byte, name, value string) string {
	body := string([]byte{kind, byte(len(name))}) + name + value
	return string(binary.BigEndian.AppendUint32(nil, uint32(len(body)))) + body + "\xa5"
}

// beginOf is a begin of a life.
func beginOf(life uint32) string {
	return rec(begin, "", string(binary.BigEndian.AppendUint32(nil, life)))
}

// sealed is a seal.
var sealed = rec(seal, "", "")

// things are values under names.
type things map[string]string

// whole are the bytes of a new life.
func whole(life uint32, has things) string {
	text := beginOf(life)
	for _, name := range slices.Sorted(maps.Keys(has)) {
		text += rec(entry, name, has[name])
	}
	return text + sealed
}

// image is all that a logbook tells.
type image struct {
	has  things
	life uint32
	dead api.Errno
}

func imageOf(l *logbook.Logbook) image {
	i := image{has: things{}, life: l.Life(), dead: l.Dead()}
	for _, name := range l.Names() {
		value, ok := l.Get(name)
		if !ok {
			value = []byte("isn't there, though it is named")
		}
		i.has[name] = string(value)
	}
	return i
}

// want holds a logbook that isn't dead against what it must tell.
func want(t *testing.T, name string, l *logbook.Logbook, life uint32, has things) {
	t.Helper()
	if got, w := imageOf(l), (image{has: has, life: life}); !reflect.DeepEqual(got, w) {
		t.Errorf("P17.1, P17.2: %s: %q, life %d, dead %d; want %q, life %d", name, got.has, got.life, got.dead, has, life)
	}
}

// must asks that calls were OK.
func must(t *testing.T, l ...api.Errno) {
	t.Helper()
	for i, e := range l {
		if e != api.OK {
			t.Fatalf("P17.1: the call %d: %d", i, e)
		}
	}
}

// opened is a logbook that must come to be.
func opened(t *testing.T, a, b *slab.Slab) *logbook.Logbook {
	t.Helper()
	l, e := logbook.Open(a, b)
	if e != api.OK || l == nil {
		t.Fatalf("P17.1: Open: %v, %d", l, e)
	}
	return l
}

// slabOf is a slab on which bytes last.
func slabOf(t *testing.T, text string) *slab.Slab {
	t.Helper()
	s := slab.New()
	must(t, s.Append([]byte(text)), s.Sync())
	return s
}

// wantSlab holds a slab against its bytes, the number of loose ones, and its steps.
func wantSlab(t *testing.T, name string, s *slab.Slab, text string, loose, steps int) {
	t.Helper()
	p, e := s.Read()
	if string(p) != text || e != api.OK || s.Loose() != loose || s.Steps() != steps {
		t.Errorf("P17.1: %s: %q, %d, %d loose, %d steps; want %q, %d loose, %d steps", name, p, e, s.Loose(), s.Steps(), text, loose, steps)
	}
}

// The chapter's example.
func TestExample(t *testing.T) {
	a, b := slab.New(), slab.New()
	l := opened(t, a, b)
	want(t, "two empty slabs", l, 1, things{})
	wantSlab(t, "the first one", a, whole(1, nil), 0, 3)
	wantSlab(t, "the second one", b, "", 0, 0)
	must(t, l.Put("x", []byte("1")))
	must(t, a.Crash(0, 0))
	want(t, "behind the crash", opened(t, a, b), 2, things{})
}

// A record's bytes, written out.
func TestRecordWrittenOut(t *testing.T) {
	a, b := slab.New(), slab.New()
	l := opened(t, a, b)
	must(t, l.Put("ab", []byte{7, 0}), l.Drop("ab"))
	wantSlab(t, "written out", a, "\x00\x00\x00\x06\x01\x00\x00\x00\x00\x01\xa5"+"\x00\x00\x00\x02\x04\x00\xa5"+"\x00\x00\x00\x06\x02\x02ab\x07\x00\xa5"+"\x00\x00\x00\x04\x03\x02ab\xa5", 20, 5)
}

// P17.1: what each call lays on which slab, and with how many steps.
func TestWhatIsLaid(t *testing.T) {
	a, b := slab.New(), slab.New()
	l := opened(t, a, b)
	text := whole(1, nil)
	for i, c := range []struct {
		do    func() api.Errno
		laid  string
		has   things
		loose int
	}{
		{func() api.Errno { return l.Put("x", []byte("1")) }, rec(entry, "x", "1"), things{"x": "1"}, 9},
		{func() api.Errno { return l.Put("x", []byte("1")) }, rec(entry, "x", "1"), things{"x": "1"}, 18},
		{l.Sync, "", things{"x": "1"}, 0},
		{l.Sync, "", things{"x": "1"}, 0},
		{func() api.Errno { return l.Put("x", []byte("two")) }, rec(entry, "x", "two"), things{"x": "two"}, 11},
		{func() api.Errno { return l.Put("", nil) }, rec(entry, "", ""), things{"x": "two", "": ""}, 18},
		{func() api.Errno { return l.Drop("x") }, rec(gone, "x", ""), things{"": ""}, 26},
		{func() api.Errno { return l.Put("x", []byte("3")) }, rec(entry, "x", "3"), things{"x": "3", "": ""}, 35},
		{func() api.Errno { return l.Drop("") }, rec(gone, "", ""), things{"x": "3"}, 42},
		{l.Sync, "", things{"x": "3"}, 0},
	} {
		must(t, c.do())
		text += c.laid
		want(t, "laid", l, 1, c.has)
		wantSlab(t, "the slab in use", a, text, c.loose, 3+i+1)
		wantSlab(t, "the other one", b, "", 0, 0)
	}
	must(t, l.Compact())
	want(t, "a new life", l, 2, things{"x": "3"})
	wantSlab(t, "the slab of before", a, text, 0, 13)
	wantSlab(t, "the new slab", b, whole(2, things{"x": "3"}), 0, 3)
	must(t, l.Put("y", []byte("4")), l.Sync())
	wantSlab(t, "the slab of before", a, text, 0, 13)
	wantSlab(t, "the new slab", b, whole(2, things{"x": "3"})+rec(entry, "y", "4"), 0, 5)
	must(t, l.Compact())
	want(t, "back again", l, 3, things{"x": "3", "y": "4"})
	wantSlab(t, "the first slab, erased ahead", a, whole(3, things{"x": "3", "y": "4"}), 0, 16)
	must(t, l.Drop("y"))
	wantSlab(t, "and on there", a, whole(3, things{"x": "3", "y": "4"})+rec(gone, "y", ""), 8, 17)
}

// P17.1: loose entries and gones are in a new life, too, and the slab of before stays as it was.
func TestCompactOfLoose(t *testing.T) {
	a, b := slab.New(), slab.New()
	l := opened(t, a, b)
	must(t, l.Put("x", []byte("1")), l.Put("y", []byte("2")), l.Drop("x"), l.Compact())
	wantSlab(t, "the slab of before", a, whole(1, nil)+rec(entry, "x", "1")+rec(entry, "y", "2")+rec(gone, "x", ""), 26, 6)
	wantSlab(t, "the new slab", b, whole(2, things{"y": "2"}), 0, 3)
	must(t, a.Crash(0, 0), b.Crash(0, 0))
	want(t, "opened again", opened(t, a, b), 3, things{"y": "2"})
}

// names are in rising order, as bytes.
var names = []string{"", "\x00", "\x00\x00", "\x00\x01", "\x01", "10", "9", "A", "Z", "a", "a\x00", "aa", "ab", "b", "z", "\x7f", "\x80", "\xc3", "é", "é1", "\xff", "\xff\x00", "\xff\xff"}

// P17.1, P17.2: names in rising order as bytes, also in a new life, in whichever order they were put.
func TestNamesRise(t *testing.T) {
	for turn := range 4 {
		a, b := slab.New(), slab.New()
		l := opened(t, a, b)
		has, order := things{}, slices.Clone(names)
		switch turn {
		case 1:
			slices.Reverse(order)
		case 2, 3:
			for i := range order {
				k := i * 7 % (i + 1)
				order[i], order[k] = order[k], order[i]
			}
		}
		for i, name := range order {
			must(t, l.Put(name, []byte{byte(i)}))
			has[name] = string([]byte{byte(i)})
		}
		if got := l.Names(); !slices.Equal(got, names) {
			t.Errorf("P17.2: %q", got)
		}
		must(t, l.Compact())
		text := beginOf(2)
		for _, name := range names {
			text += rec(entry, name, has[name])
		}
		wantSlab(t, "a new life", b, text+sealed, 0, 3)
		want(t, "all names", l, 2, has)
	}
}

// P17.1: names and values of all lengths that may be, and one more.
func TestLimits(t *testing.T) {
	for _, n := range []int{0, 1, 254, 255, 256, 257, 511, 512, 4096, 100000} {
		for _, v := range []int{0, 1, 255, 256, 4095, 4096, 4097, 4352, 4353, 65536, slab.MaxSize} {
			a, b := slab.New(), slab.New()
			l := opened(t, a, b)
			name, value := strings.Repeat("n", n), strings.Repeat("v", v)
			e := l.Put(name, []byte(value))
			has, laid, steps := things{}, whole(1, nil), 3
			if n <= 255 && v <= 4096 {
				has[name], laid, steps = value, laid+rec(entry, name, value), 4
			}
			if w := map[bool]api.Errno{true: api.OK, false: api.ErrLimit}[len(has) == 1]; e != w {
				t.Errorf("P17.1: a name of %d, a value of %d bytes: %d; want %d", n, v, e, w)
			}
			want(t, "limits", l, 1, has)
			wantSlab(t, "limits", a, laid, len(laid)-len(whole(1, nil)), steps)
			must(t, l.Sync())
			want(t, "limits, opened again", opened(t, a, b), 2, has)
		}
	}
}

// P17.1: a name is put, put again, dropped, dropped again, put once more.
func TestPutAndDrop(t *testing.T) {
	a, b := slab.New(), slab.New()
	l := opened(t, a, b)
	if e := l.Drop("x"); e != api.ErrNone {
		t.Errorf("P17.1: Drop of a name that never was: %d", e)
	}
	wantSlab(t, "nothing was dropped", a, whole(1, nil), 0, 3)
	must(t, l.Put("x", []byte("1")), l.Put("y", []byte("2")), l.Put("x", []byte("3")))
	want(t, "put twice", l, 1, things{"x": "3", "y": "2"})
	must(t, l.Drop("x"))
	want(t, "dropped", l, 1, things{"y": "2"})
	if p, ok := l.Get("x"); len(p) != 0 || ok {
		t.Errorf("P17.2: what was dropped: %q, %t", p, ok)
	}
	steps := a.Steps()
	if e := l.Drop("x"); e != api.ErrNone || a.Steps() != steps || l.Dead() != api.OK {
		t.Errorf("P17.1: dropped twice: %d, dead %d", e, l.Dead())
	}
	must(t, l.Put("x", nil))
	want(t, "put again", l, 1, things{"x": "", "y": "2"})
	if p, ok := l.Get("x"); len(p) != 0 || !ok {
		t.Errorf("P17.2: an empty value: %q, %t", p, ok)
	}
	must(t, l.Sync())
	want(t, "opened again", opened(t, a, b), 2, things{"x": "", "y": "2"})
}

// P17.1: names that are too long can't be dropped: they aren't there.
func TestDropOfTooLong(t *testing.T) {
	l := opened(t, slab.New(), slab.New())
	must(t, l.Put(strings.Repeat("n", 255), nil))
	for _, n := range []int{0, 254, 256, 511, 5000} {
		if e := l.Drop(strings.Repeat("n", n)); e != api.ErrNone {
			t.Errorf("P17.1: Drop of a name of %d bytes: %d", n, e)
		}
	}
	must(t, l.Drop(strings.Repeat("n", 255)))
	want(t, "dropped", l, 1, things{})
}

// P17.2: names that aren't there.
func TestGetOfNothing(t *testing.T) {
	l := opened(t, slab.New(), slab.New())
	must(t, l.Put("x", []byte("1")))
	for _, name := range []string{"", "X", "x\x00", "xx", "y", strings.Repeat("x", 256), strings.Repeat("x", 99999)} {
		if p, ok := l.Get(name); len(p) != 0 || ok {
			t.Errorf("P17.2: Get(%q): %q, %t", short(name), p, ok)
		}
	}
}

func short(s string) string { return s[:min(len(s), 20)] }

// R1: a nil logbook: ErrNil, and nothing.
func TestNil(t *testing.T) {
	var l *logbook.Logbook
	for name, e := range map[string]api.Errno{
		"Put":          l.Put("x", nil),
		"a great Put":  l.Put(strings.Repeat("x", 256), make([]byte, 4097)),
		"Drop":         l.Drop("x"),
		"Drop of none": l.Drop(""),
		"Sync":         l.Sync(),
		"Compact":      l.Compact(),
		"Dead":         l.Dead(),
	} {
		if e != api.ErrNil {
			t.Errorf("R1: %s of nil: %d", name, e)
		}
	}
	p, ok := l.Get("x")
	if len(p) != 0 || ok || len(l.Names()) != 0 || l.Life() != 0 {
		t.Errorf("P17.2: of nil: %q, %t, %q, %d", p, ok, l.Names(), l.Life())
	}
}

// R1: a logbook, and slabs, that weren't made by their calls: no panic.
func TestForeign(t *testing.T) {
	for i := range 5 {
		l := new(logbook.Logbook)
		for k := range 5 {
			switch (i + k) % 5 {
			case 0:
				l.Put("x", []byte("1"))
			case 1:
				l.Drop("x")
			case 2:
				l.Sync()
			case 3:
				l.Compact()
			case 4:
				imageOf(l)
			}
		}
	}
	logbook.Open(new(slab.Slab), new(slab.Slab))
	logbook.Open(slab.New(), new(slab.Slab))
	logbook.Open(new(slab.Slab), slab.New())
}

// R1: one slab in both places: all calls end, and the logbook goes by what it laid.
func TestOneSlab(t *testing.T) {
	s := slab.New()
	l := opened(t, s, s)
	must(t, l.Put("x", []byte("1")), l.Compact(), l.Put("y", []byte("2")), l.Drop("x"), l.Sync())
	want(t, "one slab", l, 2, things{"y": "2"})
	want(t, "one slab again", opened(t, s, s), 3, things{"y": "2"})
}

// R4: a nil value and an empty one are one.
func TestNilAndEmpty(t *testing.T) {
	for _, value := range [][]byte{nil, {}, make([]byte, 0, 9)} {
		a, b := slab.New(), slab.New()
		l := opened(t, a, b)
		if len(l.Names()) != 0 {
			t.Errorf("P17.2: %q", l.Names())
		}
		must(t, l.Put("x", value))
		want(t, "empty", l, 1, things{"x": ""})
		wantSlab(t, "empty", a, whole(1, nil)+rec(entry, "x", ""), 8, 4)
	}
}
