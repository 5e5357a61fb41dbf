package logbook_test

import (
	"reflect"
	"strings"
	"testing"

	"tollhouse/api"
	"tollhouse/logbook"
	"tollhouse/slab"
)

// wantDead asks every call of a dead logbook: each one answers its error and does nothing, and what it had is still told.
func wantDead(t *testing.T, name string, l *logbook.Logbook, e api.Errno, life uint32, has things, slabs ...*slab.Slab) {
	t.Helper()
	w := image{has: has, life: life, dead: e}
	if got := imageOf(l); !reflect.DeepEqual(got, w) {
		t.Errorf("P17.2: %s: %q, life %d, dead %d; want %q, life %d, dead %d", name, got.has, got.life, got.dead, has, life, e)
	}
	var steps []int
	for _, s := range slabs {
		steps = append(steps, s.Steps())
	}
	for call, got := range map[string]api.Errno{
		"Put":                 l.Put("x", []byte("z")),
		"Put of a new name":   l.Put("new", []byte("z")),
		"Put of too much":     l.Put(strings.Repeat("x", 256), make([]byte, 4097)),
		"Drop":                l.Drop("x"),
		"Drop of what isn't":  l.Drop("isn't there"),
		"Sync":                l.Sync(),
		"Compact":             l.Compact(),
		"Dead":                l.Dead(),
		"Compact once more":   l.Compact(),
		"an empty Put":        l.Put("", nil),
		"Drop of nothing":     l.Drop(""),
		"Sync once more":      l.Sync(),
		"Dead, asked at last": l.Dead(),
	} {
		if got != e {
			t.Errorf("P17.1: %s: %s of a dead logbook: %d; want %d", name, call, got, e)
		}
	}
	for i, s := range slabs {
		if s.Steps() != steps[i] {
			t.Errorf("P17.1: %s: a dead logbook did a step on the slab %d", name, i)
		}
	}
	if got := imageOf(l); !reflect.DeepEqual(got, w) {
		t.Errorf("R2: %s: turned: %v; want %v", name, got, w)
	}
}

// living is a logbook in the life 2, on the second slab, with x synced and y loose.
func living(t *testing.T) (l *logbook.Logbook, a, b *slab.Slab) {
	t.Helper()
	a, b = slab.New(), slab.New()
	l = opened(t, a, b)
	must(t, l.Put("x", []byte("1")), l.Compact(), l.Put("y", []byte("2")))
	return l, a, b
}

// P17.1: power that goes at each kind of step lets the logbook be dead, also when power is there again.
func TestDeadByPower(t *testing.T) {
	for _, c := range []struct {
		name   string
		fa, fb int
		do     func(*logbook.Logbook) api.Errno
	}{
		{"Put", -1, 0, func(l *logbook.Logbook) api.Errno { return l.Put("x", []byte("3")) }},
		{"Put of nothing", -1, 0, func(l *logbook.Logbook) api.Errno { return l.Put("", nil) }},
		{"Drop", -1, 0, func(l *logbook.Logbook) api.Errno { return l.Drop("x") }},
		{"Sync", -1, 0, (*logbook.Logbook).Sync},
		{"Compact at the erase", 0, -1, (*logbook.Logbook).Compact},
		{"Compact at the append", 1, -1, (*logbook.Logbook).Compact},
		{"Compact at the sync", 2, -1, (*logbook.Logbook).Compact},
	} {
		l, a, b := living(t)
		must(t, a.Fuse(c.fa), b.Fuse(c.fb))
		if e := c.do(l); e != api.ErrDown {
			t.Errorf("P17.1: %s: %d", c.name, e)
		}
		wantDead(t, c.name, l, api.ErrDown, 2, things{"x": "1", "y": "2"}, a, b)
		must(t, a.Crash(0, 0), b.Crash(0, 0))
		wantDead(t, c.name+", with power again", l, api.ErrDown, 2, things{"x": "1", "y": "2"}, a, b)
		must(t, a.Erase(), b.Erase())
		wantDead(t, c.name+", with empty slabs", l, api.ErrDown, 2, things{"x": "1", "y": "2"}, a, b)
	}
}

// P17.1: the slab that isn't in use may have no power, till a new life needs it.
func TestOtherSlabDown(t *testing.T) {
	l, a, b := living(t)
	must(t, a.Fuse(0))
	a.Sync()
	must(t, l.Put("z", []byte("3")), l.Drop("x"), l.Sync())
	want(t, "the other slab is down", l, 2, things{"y": "2", "z": "3"})
	if e := l.Compact(); e != api.ErrDown {
		t.Errorf("P17.1: %d", e)
	}
	wantDead(t, "Compact", l, api.ErrDown, 2, things{"y": "2", "z": "3"}, a, b)
	must(t, a.Crash(0, 0))
	want(t, "opened again", opened(t, a, b), 3, things{"y": "2", "z": "3"})
}

// P17.1: a refusal that isn't a slab's lets nothing be dead.
func TestRefusedIsntDead(t *testing.T) {
	l, a, b := living(t)
	for _, e := range []api.Errno{l.Put(strings.Repeat("n", 256), nil), l.Put("n", make([]byte, 4097)), l.Put(strings.Repeat("n", 256), make([]byte, 4097))} {
		if e != api.ErrLimit {
			t.Errorf("P17.1: %d", e)
		}
	}
	if e := l.Drop("n"); e != api.ErrNone {
		t.Errorf("P17.1: %d", e)
	}
	want(t, "refused", l, 2, things{"x": "1", "y": "2"})
	must(t, b.Fuse(0))
	if a, b := l.Put("n", make([]byte, 4097)), l.Drop("n"); a != api.ErrLimit || b != api.ErrNone {
		t.Errorf("P17.1: refused ahead of the power: %d, %d", a, b)
	}
	want(t, "refused ahead of the power", l, 2, things{"x": "1", "y": "2"})
	must(t, a.Fuse(-1))
}

// P17.1: a slab that is full lets the logbook be dead; opened again, all is there that was put.
func TestDeadByFull(t *testing.T) {
	a, b := slab.New(), slab.New()
	l := opened(t, a, b)
	value := strings.Repeat("v", 4096)
	size, has := len(whole(1, nil)), things{}
	for i := 0; ; i++ {
		name := string([]byte{byte(i % 5)})
		if size += len(rec(entry, name, value)); size > slab.MaxSize {
			break
		}
		must(t, l.Put(name, []byte(value)))
		has[name] = value
	}
	if e := l.Put("\x07", []byte(value)); e != api.ErrFull {
		t.Errorf("P17.1: a slab that is full: %d", e)
	}
	wantDead(t, "full", l, api.ErrFull, 1, has, a, b)
	must(t, a.Sync())
	want(t, "opened again", opened(t, a, b), 2, has)
	wantSlab(t, "five values only", b, whole(2, has), 0, 3)
}

// P17.1: a Drop and a Put that fill the slab to its last byte, and one byte more.
func TestFullToTheLastByte(t *testing.T) {
	for more := range 3 {
		a, b := slab.New(), slab.New()
		l := opened(t, a, b)
		must(t, l.Put("x", nil))
		size := len(whole(1, nil)) + len(rec(entry, "x", ""))
		left := slab.MaxSize - size - len(rec(gone, "x", "")) + more
		for frame := len(rec(entry, "v", "")); left > 0; {
			value := min(left-frame, 4096)
			if rest := left - frame - value; rest > 0 && rest < frame {
				value -= frame
			}
			must(t, l.Put("v", make([]byte, value)))
			left -= value + frame
		}
		e := l.Drop("x")
		if w := map[bool]api.Errno{true: api.OK, false: api.ErrFull}[more == 0]; e != w {
			t.Errorf("P17.1: %d bytes too much: %d", more, e)
		}
		if e != l.Dead() {
			t.Errorf("P17.1: dead: %d; want %d", l.Dead(), e)
		}
		if more == 0 {
			must(t, l.Sync())
			if e := l.Put("", nil); e != api.ErrFull {
				t.Errorf("P17.1: not a byte is left: %d", e)
			}
		}
		has := imageOf(l).has
		if _, ok := has["x"]; ok != (more > 0) {
			t.Errorf("R2: x is there: %t", ok)
		}
		want(t, "opened again", opened(t, a, b), 2, has)
	}
}

// P17.1: a new life that doesn't fit on a slab: it can't come about but if somebody else turned the slab in use.
func TestNewLifeDoesntFit(t *testing.T) {
	a, b := slab.New(), slab.New()
	l := opened(t, a, b)
	has := things{}
	for i := range 90 {
		if i == 50 {
			must(t, a.Erase())
		}
		name, value := string([]byte{byte(i)}), strings.Repeat("v", 4096)
		must(t, l.Put(name, []byte(value)))
		has[name] = value
	}
	if e := l.Compact(); e != api.ErrFull {
		t.Errorf("P17.1: a new life that doesn't fit: %d", e)
	}
	if b.Steps() != 1 || b.Down() {
		t.Errorf("P17.1: the other slab was erased, and no more: %d steps", b.Steps())
	}
	wantDead(t, "a new life that doesn't fit", l, api.ErrFull, 1, has, a, b)
}

// P17.1: a new life that just fits, as what a slab tells always does.
func TestNewLifeJustFits(t *testing.T) {
	text := whole(7, things{"x": strings.Repeat("v", slab.MaxSize-len(whole(7, things{"x": ""})))})
	if len(text) != slab.MaxSize {
		t.Fatalf("%d bytes", len(text))
	}
	a, b := slabOf(t, text), slab.New()
	l := opened(t, a, b)
	wantSlab(t, "full", b, beginOf(8)+text[len(beginOf(7)):], 0, 3)
	must(t, l.Compact())
	wantSlab(t, "full", a, beginOf(9)+text[len(beginOf(7)):], 0, 5)
	if e := l.Drop("x"); e != api.ErrFull || l.Dead() != api.ErrFull {
		t.Errorf("P17.1: %d", e)
	}
}
