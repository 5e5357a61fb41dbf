package logbook_test

import (
	"slices"
	"testing"

	"tollhouse/slab"
)

// R3: a value handed in isn't turned, nor the room behind it, and isn't kept.
func TestHandedInIsntKept(t *testing.T) {
	room := []byte("abcdefgh")
	a, b := slab.New(), slab.New()
	l := opened(t, a, b)
	must(t, l.Put("x", room[:2]), l.Put("y", room[2:5]), l.Put("z", room[:0]))
	p, _ := l.Get("x")
	_ = append(p, "written behind"...)
	must(t, l.Sync(), l.Compact())
	if string(room) != "abcdefgh" {
		t.Errorf("R3: turned: %q", room)
	}
	clear(room)
	has := things{"x": "ab", "y": "cde", "z": ""}
	want(t, "kept on its own", l, 2, has)
	must(t, l.Compact())
	wantSlab(t, "laid on its own", a, whole(3, has), 0, 10)
	if slices.ContainsFunc(room, func(b byte) bool { return b != 0 }) {
		t.Errorf("R3: turned later on: %q", room)
	}
}

// R3: values handed out are new memory, their spare room too; they don't turn later on.
func TestHandedOutIsNew(t *testing.T) {
	for _, reopened := range []bool{false, true} {
		a, b := slab.New(), slab.New()
		l := opened(t, a, b)
		life := uint32(1)
		has := things{"x": "abc", "y": "defgh", "z": ""}
		for name, value := range has {
			must(t, l.Put(name, []byte(value)))
		}
		if reopened {
			l, life = opened(t, a, b), 2
		}
		var all [][]byte
		for range 3 {
			for _, name := range []string{"x", "y", "z"} {
				p, ok := l.Get(name)
				if !ok || string(p) != has[name] {
					t.Fatalf("P17.2: %q, %t", p, ok)
				}
				_ = append(p, "scribbled"...)
				clear(p[:cap(p)])
				all = append(all, p)
			}
		}
		for i, p := range all {
			for k := range p[:cap(p)] {
				p[:cap(p)][k] = byte(i + 1)
			}
		}
		for i, p := range all {
			if slices.ContainsFunc(p[:cap(p)], func(b byte) bool { return b != byte(i+1) }) {
				t.Errorf("R3: two answers share memory: %v", p)
			}
		}
		want(t, "as it was", l, life, has)
	}
}

// R3: what was handed out stays as it was, whatever is done then.
func TestHandedOutStays(t *testing.T) {
	a, b := slab.New(), slab.New()
	l := opened(t, a, b)
	must(t, l.Put("x", []byte("abc")), l.Put("y", nil))
	p, _ := l.Get("x")
	names := l.Names()
	must(t, l.Put("x", []byte("xyz")), l.Put("a", nil), l.Drop("y"), l.Compact(), l.Drop("x"))
	if string(p) != "abc" || !slices.Equal(names, []string{"x", "y"}) {
		t.Errorf("R3: %q, %q", p, names)
	}
}

// R3: the list of names is new memory, its spare room too.
func TestNamesAreNew(t *testing.T) {
	l := opened(t, slab.New(), slab.New())
	for _, name := range names {
		must(t, l.Put(name, nil))
	}
	one, two := l.Names(), l.Names()
	_ = append(one, "scribbled", "scribbled")
	clear(one[:cap(one)])
	if !slices.Equal(two, names) || !slices.Equal(l.Names(), names) {
		t.Errorf("R3: %q", two)
	}
}

// R3: a value that is put as it was got, or got and put under another name.
func TestOwnValuesAgain(t *testing.T) {
	a, b := slab.New(), slab.New()
	l := opened(t, a, b)
	must(t, l.Put("x", []byte("abc")))
	p, _ := l.Get("x")
	must(t, l.Put("x", p), l.Put("y", p))
	clear(p[:cap(p)])
	want(t, "put again", l, 1, things{"x": "abc", "y": "abc"})
}
