package logbook_test

import (
	"math"
	"strings"
	"testing"

	"tollhouse/api"
	"tollhouse/logbook"
	"tollhouse/slab"
)

// head is a slab's beginning that counts, and kept what it tells.
var (
	head = beginOf(5) + rec(entry, "k", "old") + sealed
	kept = things{"k": "old"}
)

// with is what head tells, and more.
func with(l ...string) things {
	has := things{"k": "old"}
	for i := 0; i < len(l); i += 2 {
		has[l[i]] = l[i+1]
	}
	return has
}

// raw is a record of any bytes as its length, its body and its end.
func raw(length uint32, body, end string) string {
	return string([]byte{byte(length >> 24), byte(length >> 16), byte(length >> 8), byte(length)}) + body + end
}

// P17.1: what a slab tells, behind a beginning that is right: up to the first record that isn't whole, or can't stand there.
func TestWhatASlabTells(t *testing.T) {
	const more = "\x00\x00\x00\x04\x02\x01y2\xa5" // an entry of y: told, if what is ahead of it is
	long := strings.Repeat("v", 4097)
	longer := strings.Repeat("w", 200000)
	for _, c := range []struct {
		name string
		text string
		has  things
	}{
		{"nothing more", "", kept},
		{"an entry", more, with("y", "2")},
		{"another value", rec(entry, "k", "new") + more, things{"k": "new", "y": "2"}},
		{"the last value counts", rec(entry, "y", "1") + rec(entry, "k", "9") + more + rec(entry, "k", ""), things{"k": "", "y": "2"}},
		{"gone", rec(gone, "k", "") + more, things{"y": "2"}},
		{"gone, and put again", rec(gone, "k", "") + rec(entry, "k", "z"), things{"k": "z"}},
		{"gone twice", rec(gone, "k", "") + rec(gone, "k", "") + more, things{"y": "2"}},
		{"gone, though it never was", rec(gone, "u", "") + more, with("y", "2")},
		{"a gone with a value", rec(gone, "k", "value") + more, things{"y": "2"}},
		{"a second seal", sealed + more, with("y", "2")},
		{"a seal with a name and a value", rec(seal, "n", "v") + more, with("y", "2")},
		{"an empty name", rec(entry, "", "e") + more, with("", "e", "y", "2")},
		{"a name of 255 bytes", rec(entry, strings.Repeat("n", 255), "e") + more, with(strings.Repeat("n", 255), "e", "y", "2")},
		{"a value of 4097 bytes", rec(entry, "l", long) + more, with("l", long, "y", "2")},
		{"a value of 200000 bytes", rec(entry, "l", longer) + more, with("l", longer, "y", "2")},
		{"a value that looks like a record", rec(entry, "r", sealed+"\xa5") + more, with("r", sealed+"\xa5", "y", "2")},

		{"a second begin", beginOf(6) + more, kept},
		{"a second begin of the same life", beginOf(5) + more, kept},
		{"a second begin with a value of three bytes", rec(begin, "", "abc") + more, kept},
		{"a second begin with a name", rec(begin, "k", "") + more, kept},
		{"the kind 0", rec(0, "k", "z") + more, kept},
		{"the kind 5", rec(5, "k", "z") + more, kept},
		{"the kind 255", rec(255, "k", "z") + more, kept},
		{"another end", raw(4, "\x02\x01y1", "\xa4") + more, kept},
		{"an end of 0", raw(4, "\x02\x01y1", "\x00") + more, kept},
		{"an end of 5a", raw(4, "\x02\x01y1", "\x5a") + more, kept},
		{"no body", raw(0, "", "\xa5") + more, kept},
		{"a body of one byte", raw(1, "\x02", "\xa5") + more, kept},
		{"a body of one byte that is a seal's", raw(1, "\x04", "\xa5") + more, kept},
		{"a body of two bytes", raw(2, "\x02\x00", "\xa5") + more, with("", "", "y", "2")},
		{"a name one byte longer than its body", raw(4, "\x02\x03ab", "\xa5") + more, kept},
		{"a name as long as its body", raw(4, "\x02\x02ab", "\xa5") + more, with("ab", "", "y", "2")},
		{"a name of 255 bytes in a body of two", raw(2, "\x02\xff", "\xa5") + more, kept},
		{"a name that would have the end in it", raw(3, "\x02\x02y", "\xa5") + more, kept},
		{"a seal whose name is longer than its body", raw(3, "\x04\x02y", "\xa5") + more, kept},
		{"a length one too great", raw(5, "\x02\x01y1", "\xa5") + more, kept},
		{"a length one too small", raw(3, "\x02\x01y1", "\xa5") + more, kept},
		{"a length beyond the slab", raw(100, "\x02\x01y1", "\xa5") + more, kept},
		{"the greatest length", raw(math.MaxUint32, "\x02\x01y1", "\xa5") + more, kept},
		{"a length 2^8 too great", raw(1<<8+4, "\x02\x01y1", "\xa5") + more, kept},
		{"a length 2^16 too great", raw(1<<16+4, "\x02\x01y1", "\xa5") + more, kept},
		{"a length 2^24 too great", raw(1<<24+4, "\x02\x01y1", "\xa5") + more, kept},
		{"a length 2^31 too great", raw(1<<31+4, "\x02\x01y1", "\xa5") + more, kept},
		{"zeros", strings.Repeat("\x00", 40) + more, kept},
		{"only three bytes", "\x00\x00\x00", kept},
		{"only a length", "\x00\x00\x00\x02", kept},
		{"a5 all the way", strings.Repeat("\xa5", 40), kept},
		{"a byte between", "\x00" + more, kept},
	} {
		a, b := slabOf(t, head+c.text), slab.New()
		want(t, "on the first slab: "+c.name, opened(t, a, b), 6, c.has)
		wantSlab(t, "a new life on the second one: "+c.name, b, whole(6, c.has), 0, 3)
		wantSlab(t, "the first one stays: "+c.name, a, head+c.text, 0, 2)
		a, b = slab.New(), slabOf(t, head+c.text)
		want(t, "on the second slab: "+c.name, opened(t, a, b), 6, c.has)
		wantSlab(t, "a new life on the first one: "+c.name, a, whole(6, c.has), 0, 3)
	}
}

// P17.1: what doesn't begin rightly, or has no seal that is told, tells nothing that counts.
func TestWhatDoesntCount(t *testing.T) {
	x := rec(entry, "x", "1")
	for _, c := range []struct{ name, text string }{
		{"nothing", ""},
		{"one byte", "\x00"},
		{"any bytes", "any bytes that are no record, all the way to the end"},
		{"zeros", strings.Repeat("\x00", 50)},
		{"a5", strings.Repeat("\xa5", 50)},
		{"no seal", beginOf(5) + x},
		{"a begin alone", beginOf(5)},
		{"a seal alone", sealed},
		{"an entry first", x + beginOf(5) + sealed},
		{"a seal first", sealed + beginOf(5) + x + sealed},
		{"a gone first", rec(gone, "x", "") + beginOf(5) + sealed},
		{"an unknown kind first", rec(9, "", "abcd") + beginOf(5) + sealed},
		{"an entry with a value of four bytes first", rec(entry, "", "\x00\x00\x00\x05") + x + sealed},
		{"a begin with no value", rec(begin, "", "") + x + sealed},
		{"a begin with a value of three bytes", rec(begin, "", "\x00\x00\x05") + x + sealed},
		{"a begin with a value of five bytes", rec(begin, "", "\x00\x00\x00\x00\x05") + x + sealed},
		{"a begin with a value of eight bytes", rec(begin, "", "\x00\x00\x00\x05\x00\x00\x00\x05") + x + sealed},
		{"a begin whose name has four bytes", rec(begin, "abcd", "") + x + sealed},
		{"a begin that isn't whole", raw(6, "\x01\x00\x00\x00\x00\x05", "\x00") + x + sealed},
		{"a second begin ahead of the seal", beginOf(5) + x + beginOf(5) + sealed},
		{"an unknown kind ahead of the seal", beginOf(5) + x + rec(0, "", "") + sealed},
		{"a seal of another end", beginOf(5) + x + raw(2, "\x04\x00", "\xa6")},
		{"zeros ahead of the seal", beginOf(5) + x + "\x00\x00\x00\x00" + sealed},
		{"a byte ahead of all", "\x00" + beginOf(5) + x + sealed},
	} {
		a, b := slabOf(t, c.text), slab.New()
		want(t, "the first slab: "+c.name, opened(t, a, b), 1, things{})
		wantSlab(t, "the life 1 is on the first one: "+c.name, a, whole(1, nil), 0, 5)
		wantSlab(t, "the second one stays: "+c.name, b, "", 0, 0)
		a, b = slab.New(), slabOf(t, c.text)
		want(t, "the second slab: "+c.name, opened(t, a, b), 1, things{})
		wantSlab(t, "the second one stays: "+c.name, b, c.text, 0, 2)
		a, b = slabOf(t, c.text), slabOf(t, head)
		want(t, "beside one that counts: "+c.name, opened(t, a, b), 6, kept)
		wantSlab(t, "the one that doesn't count is erased: "+c.name, a, whole(6, kept), 0, 5)
		wantSlab(t, "the one that counts stays: "+c.name, b, head, 0, 2)
	}
}

// P17.1: records cut short at each byte, with zeros behind them and without.
func TestCutAtEachByte(t *testing.T) {
	pieces := []string{beginOf(5), rec(entry, "x", "1"), sealed, rec(entry, "long", strings.Repeat("\xa5", 300)), rec(gone, "x", ""), rec(entry, "", ""), rec(entry, "x", "\x00\x00")}
	tells := []things{{}, {"x": "1"}, {"x": "1"}, {"x": "1", "long": strings.Repeat("\xa5", 300)}, {"long": strings.Repeat("\xa5", 300)}, {"long": strings.Repeat("\xa5", 300), "": ""}, {"long": strings.Repeat("\xa5", 300), "": "", "x": "\x00\x00"}}
	all := strings.Join(pieces, "")
	for cut := range len(all) + 1 {
		entire, at := -1, 0
		for i, piece := range pieces {
			if at += len(piece); at <= cut {
				entire = i
			}
		}
		life, has := uint32(1), things{}
		if entire >= 2 {
			life, has = 6, tells[entire]
		}
		for _, behind := range []string{"", "\x00", "\x00\x00\x00\x00\x00\x00\x00", strings.Repeat("\x00", 400)} {
			want(t, "cut short", opened(t, slabOf(t, all[:cut]+behind), slab.New()), life, has)
		}
	}
}

// P17.1: which of two slabs counts.
func TestWhichCounts(t *testing.T) {
	full := func(life uint32, mark string) string {
		return beginOf(life) + rec(entry, "on", mark) + sealed
	}
	open := func(life uint32, mark string) string { return beginOf(life) + rec(entry, "on", mark) }
	for _, c := range []struct {
		name string
		a, b string
		on   string
		life uint32
	}{
		{"the first one is greater", full(8, "a"), full(7, "b"), "a", 9},
		{"the second one is greater", full(7, "a"), full(8, "b"), "b", 9},
		{"much greater", full(1, "a"), full(1<<31, "b"), "b", 1<<31 + 1},
		{"by the highest byte", full(0x01000000, "a"), full(0x00ffffff, "b"), "a", 0x01000001},
		{"of one life the first one", full(7, "a"), full(7, "b"), "a", 8},
		{"both of the life 0", full(0, "a"), full(0, "b"), "a", 1},
		{"the life 0 on the second one", "", full(0, "b"), "b", 1},
		{"the life 0 on the first one", full(0, "a"), "", "a", 1},
		{"the greater one has no seal", open(9, "a"), full(2, "b"), "b", 3},
		{"the greater one, the second, has no seal", full(2, "a"), open(9, "b"), "a", 3},
		{"of one life, and the first one has no seal", open(7, "a"), full(7, "b"), "b", 8},
		{"neither has a seal", open(7, "a"), open(8, "b"), "", 1},
		{"the greatest life but one", full(math.MaxUint32-1, "a"), full(3, "b"), "a", math.MaxUint32},
		{"the greatest life has no seal", open(math.MaxUint32, "a"), full(3, "b"), "b", 4},
	} {
		a, b := slabOf(t, c.a), slabOf(t, c.b)
		has := things{"on": c.on}
		if c.on == "" {
			has = things{}
		}
		want(t, c.name, opened(t, a, b), c.life, has)
		if c.on == "a" {
			wantSlab(t, c.name, a, c.a, 0, 2)
			wantSlab(t, c.name, b, whole(c.life, has), 0, 5)
		} else {
			wantSlab(t, c.name, a, whole(c.life, has), 0, 5)
			wantSlab(t, c.name, b, c.b, 0, 2)
		}
	}
}

// P17.1: a begin may have a name, and loose bytes tell as those that last do.
func TestOpenOfLoose(t *testing.T) {
	a, b := slab.New(), slab.New()
	must(t, a.Append([]byte(rec(begin, "a name", "\x00\x00\x00\x09")+rec(entry, "x", "1")+sealed)))
	want(t, "loose", opened(t, a, b), 10, things{"x": "1"})
	if a.Loose() == 0 || a.Steps() != 1 || b.Loose() != 0 {
		t.Errorf("P17.1: a new life is synced on the other slab alone: %d, %d loose", a.Loose(), b.Loose())
	}
}

// P17.1: the life 2^32 - 1 is the last one.
func TestLastLife(t *testing.T) {
	last := whole(math.MaxUint32, things{"x": "1"})
	for _, c := range [][2]string{{last, ""}, {"", last}, {last, head}, {head, last}, {last, last}} {
		a, b := slabOf(t, c[0]), slabOf(t, c[1])
		if l, e := logbook.Open(a, b); l != nil || e != api.ErrLimit {
			t.Errorf("P17.1: Open of the last life: %v, %d", l, e)
		}
		wantSlab(t, "nothing is done", a, c[0], 0, 2)
		wantSlab(t, "nothing is done", b, c[1], 0, 2)
	}
	a, b := slabOf(t, whole(math.MaxUint32-1, things{"x": "1"})), slab.New()
	l := opened(t, a, b)
	want(t, "the last life", l, math.MaxUint32, things{"x": "1"})
	for range 2 {
		if e := l.Compact(); e != api.ErrLimit || l.Dead() != api.OK {
			t.Errorf("P17.1: Compact in the last life: %d, dead %d", e, l.Dead())
		}
	}
	must(t, l.Put("y", []byte("2")), l.Drop("x"), l.Sync())
	want(t, "it isn't dead", l, math.MaxUint32, things{"y": "2"})
	wantSlab(t, "the other slab stays", a, whole(math.MaxUint32-1, things{"x": "1"}), 0, 2)
	wantSlab(t, "the slab in use", b, whole(math.MaxUint32, things{"x": "1"})+rec(entry, "y", "2")+rec(gone, "x", ""), 0, 6)
}

// P17.1: slabs that can't be read: the first one's error first; nothing is done to the other one.
func TestOpenOfNoSlabs(t *testing.T) {
	down := func() *slab.Slab {
		s := slabOf(t, head)
		s.Fuse(0)
		s.Sync()
		return s
	}
	for _, c := range []struct {
		name string
		a, b *slab.Slab
		e    api.Errno
	}{
		{"the first one nil", nil, slabOf(t, head), api.ErrNil},
		{"the second one nil", slabOf(t, head), nil, api.ErrNil},
		{"both nil", nil, nil, api.ErrNil},
		{"the first one down", down(), slabOf(t, head), api.ErrDown},
		{"the second one down", slabOf(t, head), down(), api.ErrDown},
		{"both down", down(), down(), api.ErrDown},
		{"the first one nil, the second one down", nil, down(), api.ErrNil},
		{"the first one down, the second one nil", down(), nil, api.ErrDown},
		{"the second one nil, and the first one in its last life", slabOf(t, whole(math.MaxUint32, nil)), nil, api.ErrNil},
		{"the second one down, and the first one in its last life", slabOf(t, whole(math.MaxUint32, nil)), down(), api.ErrDown},
	} {
		steps := [2]int{c.a.Steps(), c.b.Steps()}
		if l, e := logbook.Open(c.a, c.b); l != nil || e != c.e {
			t.Errorf("P17.1: %s: %v, %d; want %d", c.name, l, e, c.e)
		}
		if c.a.Steps() != steps[0] || c.b.Steps() != steps[1] {
			t.Errorf("R2: %s: a step was done", c.name)
		}
	}
}

// P17.1: the last life comes ahead of a slab's error in a new life.
func TestLastLifeAheadOfPower(t *testing.T) {
	a, b := slabOf(t, whole(math.MaxUint32, nil)), slab.New()
	must(t, a.Fuse(0), b.Fuse(0))
	if l, e := logbook.Open(a, b); l != nil || e != api.ErrLimit || a.Down() || b.Down() {
		t.Errorf("P17.1: %v, %d", l, e)
	}
}

// P17.1: a new life is an erase, an append, a sync, in this order, on the other slab: what is there when the power goes at each of them.
func TestStepsOfANewLife(t *testing.T) {
	const old = "old bytes"
	text := whole(6, kept)
	for fuse, c := range []struct {
		last, loose string
	}{{old, ""}, {"", ""}, {"", text}} {
		a, b := slabOf(t, head), slabOf(t, old)
		must(t, a.Fuse(0), b.Fuse(fuse))
		if l, e := logbook.Open(a, b); l != nil || e != api.ErrDown || a.Down() || !b.Down() {
			t.Errorf("P17.1: the fuse %d: %v, %d", fuse, l, e)
		}
		if b.Loose() != len(c.loose) || b.Steps() != 2+fuse {
			t.Errorf("P17.1: the fuse %d: %d loose, %d steps", fuse, b.Loose(), b.Steps())
		}
		must(t, b.Crash(len(c.loose), 0))
		wantSlab(t, "at the fuse", b, c.last+c.loose, 0, 2+fuse)
		wantSlab(t, "the other one", a, head, 0, 2)
	}
	a, b := slabOf(t, head), slabOf(t, old)
	must(t, a.Fuse(0), b.Fuse(3))
	want(t, "three steps, and none on the other slab", opened(t, a, b), 6, kept)
	must(t, b.Crash(0, 0))
	wantSlab(t, "it is synced", b, text, 0, 5)
}
