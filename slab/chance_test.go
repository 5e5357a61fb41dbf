package slab_test

import (
	"math/rand"
	"testing"

	"tollhouse/api"
	"tollhouse/slab"
)

// book is what the chapter's words make of a slab: byte by byte, with whether it lasts.
type book struct {
	cells []cell
	steps int
	fused bool
	fuse  int
	down  bool
}

type cell struct {
	b     byte
	lasts bool
}

func (k *book) image() image {
	i := image{steps: k.steps, down: k.down}
	for _, c := range k.cells {
		i.text += string([]byte{c.b})
		if !c.lasts {
			i.loose++
		}
	}
	if k.down {
		i.text, i.e = "", api.ErrDown
	}
	return i
}

// step is whether a step is done.
func (k *book) step() api.Errno {
	if k.fused && k.fuse == 0 {
		k.down = true
		return api.ErrDown
	}
	k.fuse--
	k.steps++
	return api.OK
}

func (k *book) lay(p []byte) api.Errno {
	if k.down {
		return api.ErrDown
	}
	if len(k.cells)+len(p) > 262144 {
		return api.ErrFull
	}
	if e := k.step(); e != api.OK {
		return e
	}
	for _, b := range p {
		k.cells = append(k.cells, cell{b: b})
	}
	return api.OK
}

func (k *book) sync() api.Errno {
	if k.down {
		return api.ErrDown
	}
	e := k.step()
	for i := range k.cells {
		k.cells[i].lasts = k.cells[i].lasts || e == api.OK
	}
	return e
}

func (k *book) erase() api.Errno {
	if k.down {
		return api.ErrDown
	}
	e := k.step()
	if e == api.OK {
		k.cells = nil
	}
	return e
}

func (k *book) setFuse(n int) api.Errno {
	if k.down {
		return api.ErrDown
	}
	k.fused, k.fuse = n >= 0, n
	return api.OK
}

func (k *book) crash(keep, zeros int) api.Errno {
	var left []cell
	for _, c := range k.cells {
		switch {
		case c.lasts:
		case keep > 0:
			keep--
		case zeros > 0:
			zeros--
			c.b = 0
		default:
			continue
		}
		left = append(left, cell{b: c.b, lasts: true})
	}
	k.cells, k.fused, k.down = left, false, false
	return api.OK
}

// P16.1 to P16.4: calls by chance, against the book.
func TestByChance(t *testing.T) {
	r := rand.New(rand.NewSource(16))
	met := map[api.Errno]int{}
	for range 300 {
		s, k := slab.New(), &book{}
		for range 120 {
			var got, want api.Errno
			switch r.Intn(12) {
			case 0, 1, 2, 3:
				p := make([]byte, r.Intn(6))
				r.Read(p)
				if r.Intn(60) == 0 {
					p = make([]byte, slab.MaxSize-len(k.cells)+r.Intn(3)+1)
				}
				want, got = k.lay(p), s.Append(p)
			case 4, 5:
				want, got = k.sync(), s.Sync()
			case 6:
				want, got = k.erase(), s.Erase()
			case 7, 8:
				n := r.Intn(9) - 1
				want, got = k.setFuse(n), s.Fuse(n)
			case 9, 10:
				keep, zeros := r.Intn(10)-2, r.Intn(10)-2
				want, got = k.crash(keep, zeros), s.Crash(keep, zeros)
			case 11:
				p, e := s.Read()
				want, got = k.image().e, e
				if string(p) != k.image().text {
					t.Fatalf("P16.1: %q", p)
				}
			}
			met[got]++
			if got != want || imageOf(s) != k.image() {
				t.Fatalf("P16.1 to P16.4: %d, want %d: %v, want %v", got, want, imageOf(s), k.image())
			}
		}
	}
	for _, e := range []api.Errno{api.OK, api.ErrDown, api.ErrFull} {
		if met[e] < 50 {
			t.Errorf("the error %d was met %d times", e, met[e])
		}
	}
}
