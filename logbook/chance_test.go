package logbook_test

import (
	"encoding/binary"
	"maps"
	"math/rand"
	"reflect"
	"slices"
	"strings"
	"testing"

	"tollhouse/api"
	"tollhouse/logbook"
	"tollhouse/slab"
)

// disk is what the words of layer 16 make of a slab.
type disk struct {
	last, loose string
	steps       int
	fuse        int // below 0 there is none
	down        bool
}

// step does a step that needs so much room.
func (d *disk) step(room int, do func()) api.Errno {
	switch {
	case d.down:
		return api.ErrDown
	case len(d.last)+len(d.loose)+room > slab.MaxSize:
		return api.ErrFull
	case d.fuse == 0:
		d.down = true
		return api.ErrDown
	}
	d.fuse = max(d.fuse-1, -1)
	d.steps++
	do()
	return api.OK
}

func (d *disk) lay(text string) api.Errno { return d.step(len(text), func() { d.loose += text }) }

func (d *disk) sync() api.Errno {
	return d.step(0, func() { d.last, d.loose = d.last+d.loose, "" })
}

func (d *disk) erase() api.Errno { return d.step(0, func() { d.last, d.loose = "", "" }) }

func (d *disk) crash(keep, zeros int) {
	keep = min(keep, len(d.loose))
	zeros = min(zeros, len(d.loose)-keep)
	*d = disk{last: d.last + d.loose[:keep] + strings.Repeat("\x00", zeros), steps: d.steps, fuse: -1}
}

// is asks whether a slab tells the same.
func (d *disk) is(s *slab.Slab) bool {
	p, e := s.Read()
	if d.down {
		return e == api.ErrDown && s.Down() && s.Loose() == len(d.loose) && s.Steps() == d.steps
	}
	return e == api.OK && !s.Down() && string(p) == d.last+d.loose && s.Loose() == len(d.loose) && s.Steps() == d.steps
}

// recs takes a text apart into the records that are whole, each as kind, name, value.
func recs(text string) [][3]string {
	if len(text) < 5 {
		return nil
	}
	size := int(binary.BigEndian.Uint32([]byte(text[:4])))
	if size < 2 || len(text) < 4+size+1 || text[4+size] != 0xa5 || 2+int(text[5]) > size {
		return nil
	}
	body := text[4 : 4+size]
	name, value := body[2:2+int(body[1])], body[2+int(body[1]):]
	return append([][3]string{{body[:1], name, value}}, recs(text[5+size:])...)
}

// told is what a text tells: a life, what is there, whether there is a seal.
func told(text string) (life uint32, has things, isSealed bool) {
	has = things{}
	l := recs(text)
	if len(l) == 0 || l[0][0] != "\x01" || len(l[0][2]) != 4 {
		return 0, has, false
	}
	for _, r := range l[1:] {
		switch r[0] {
		case "\x02":
			has[r[1]] = r[2]
		case "\x03":
			delete(has, r[1])
		case "\x04":
			isSealed = true
		default:
			return binary.BigEndian.Uint32([]byte(l[0][2])), has, isSealed
		}
	}
	return binary.BigEndian.Uint32([]byte(l[0][2])), has, isSealed
}

// book is what the chapter's words make of a logbook.
type book struct {
	disks [2]*disk
	there bool
	on    int
	image
}

func (k *book) open() api.Errno {
	k.there, k.on, k.image = false, 1, image{has: things{}}
	for _, d := range k.disks {
		if d.down {
			return api.ErrDown
		}
	}
	found := false
	for i, d := range k.disks {
		life, has, isSealed := told(d.last + d.loose)
		if isSealed && (!found || life > k.life) {
			found, k.on, k.has, k.life = true, i, has, life
		}
	}
	e := k.renew()
	k.there = e == api.OK
	return e
}

// done notes by which error it is dead.
func (k *book) done(e api.Errno) api.Errno {
	k.dead = e
	return e
}

func (k *book) renew() api.Errno {
	if k.dead != api.OK {
		return k.dead
	}
	if k.life == 1<<32-1 {
		return api.ErrLimit
	}
	d := k.disks[1-k.on]
	if e := d.erase(); e != api.OK {
		return k.done(e)
	}
	if e := d.lay(whole(k.life+1, k.has)); e != api.OK {
		return k.done(e)
	}
	if e := d.sync(); e != api.OK {
		return k.done(e)
	}
	k.on, k.life = 1-k.on, k.life+1
	return api.OK
}

func (k *book) put(name, value string) api.Errno {
	if k.dead != api.OK {
		return k.dead
	}
	if len(name) > 255 || len(value) > 4096 {
		return api.ErrLimit
	}
	e := k.done(k.disks[k.on].lay(rec(entry, name, value)))
	if e == api.OK {
		k.has[name] = value
	}
	return e
}

func (k *book) drop(name string) api.Errno {
	if k.dead != api.OK {
		return k.dead
	}
	if _, ok := k.has[name]; !ok {
		return api.ErrNone
	}
	e := k.done(k.disks[k.on].lay(rec(gone, name, "")))
	if e == api.OK {
		delete(k.has, name)
	}
	return e
}

func (k *book) sync() api.Errno {
	if k.dead != api.OK {
		return k.dead
	}
	return k.done(k.disks[k.on].sync())
}

// game is a logbook beside its book.
type game struct {
	r     *rand.Rand
	great bool // whether values are near the limit
	slabs [2]*slab.Slab
	l     *logbook.Logbook
	k     *book
}

func (g *game) name() string {
	return []string{"", "a", "b", "c", "ab", "\xff", strings.Repeat("n", 255), strings.Repeat("m", 256), strings.Repeat("n", 511)}[g.r.Intn(9)]
}

func (g *game) value() string {
	n := []int{0, 1, 4, 9, 300}[g.r.Intn(5)]
	if g.great {
		n = 4090 + g.r.Intn(8)
	}
	p := make([]byte, n)
	g.r.Read(p)
	return string(p)
}

// piece is what somebody else may lay on a slab: a record, a piece of one, something else.
func (g *game) piece() string {
	text := []string{beginOf(g.r.Uint32()), beginOf(1<<32 - 1 - uint32(g.r.Intn(2))), sealed, rec(byte(g.r.Intn(6)), "ab", g.value()), rec(gone, "a", ""), whole(g.r.Uint32(), things{"c": "x"}), "\x00\x00\x00\x02\x02\xa5\xa5"}[g.r.Intn(7)]
	if g.r.Intn(3) == 0 {
		return text[:g.r.Intn(len(text)+1)]
	}
	return text
}

// meddle does something to a slab, past the logbook.
func (g *game) meddle() (got, want api.Errno) {
	i := g.r.Intn(2)
	s, d := g.slabs[i], g.k.disks[i]
	switch g.r.Intn(12) {
	case 0, 1, 2:
		fuse := g.r.Intn(7) - 1
		if !d.down {
			d.fuse = fuse
		}
		return s.Fuse(fuse), map[bool]api.Errno{true: api.ErrDown}[d.down]
	case 3, 4, 5, 6, 7:
		keep, zeros := g.r.Intn(400), g.r.Intn(9)
		d.crash(keep, zeros)
		return s.Crash(keep, zeros), api.OK
	case 8:
		return s.Erase(), d.erase()
	case 9:
		return s.Sync(), d.sync()
	default:
		text := g.piece()
		return s.Append([]byte(text)), d.lay(text)
	}
}

// act does something by chance.
func (g *game) act() (name string, got, want api.Errno) {
	if g.l == nil || g.r.Intn(20) == 0 && (!g.great || g.r.Intn(10) == 0) {
		l, e := logbook.Open(g.slabs[0], g.slabs[1])
		g.l = l
		return "Open", e, g.k.open()
	}
	x, value := g.name(), g.value()
	call := g.r.Intn(10)
	if g.great && g.r.Intn(9) > 0 {
		call = 0
	}
	switch call {
	case 0, 1, 2, 3:
		return "Put", g.l.Put(x, []byte(value)), g.k.put(x, value)
	case 4, 5:
		return "Drop", g.l.Drop(x), g.k.drop(x)
	case 6, 7:
		return "Sync", g.l.Sync(), g.k.sync()
	case 8:
		return "Compact", g.l.Compact(), g.k.renew()
	default:
		return "Dead", g.l.Dead(), g.k.dead
	}
}

// past lays on both slabs what may have been there ahead of the first Open.
func (g *game) past() {
	for i, s := range g.slabs {
		life := []uint32{0, 1, 2, 1 << 31, 1<<32 - 2, 1<<32 - 1}[g.r.Intn(6)]
		text := whole(life, things{"a": g.value(), "b": ""}) + g.piece() + g.piece()
		s.Append([]byte(text))
		g.k.disks[i].lay(text)
	}
}

// check holds all that there is against the book.
func (g *game) check(t *testing.T, name string) {
	t.Helper()
	for i, s := range g.slabs {
		if !g.k.disks[i].is(s) {
			t.Fatalf("P17.1: %s: the slab %d isn't as it must be", name, i)
		}
	}
	if (g.l != nil) != g.k.there {
		t.Fatalf("P17.1: %s: there is a logbook: %t", name, g.l != nil)
	}
	if g.l == nil {
		return
	}
	if got := imageOf(g.l); !reflect.DeepEqual(got, g.k.image) {
		t.Fatalf("P17.1, P17.2: %s: %v; want %v", name, got, g.k.image)
	}
	if got := g.l.Names(); !slices.Equal(got, slices.Sorted(maps.Keys(g.k.has))) {
		t.Fatalf("P17.2: %s: %q", name, got)
	}
	for range 3 {
		x := g.name()
		p, ok := g.l.Get(x)
		if value, there := g.k.has[x]; ok != there || string(p) != value {
			t.Fatalf("P17.2: %s: Get(%q): %q, %t; want %q, %t", name, x, p, ok, value, there)
		}
	}
}

// P17.1 to P17.3: calls by chance, also past the logbook, against the book.
func TestByChance(t *testing.T) {
	r := rand.New(rand.NewSource(17))
	met := map[string]map[api.Errno]int{}
	for n := range 1500 {
		g := &game{r: r, great: n%75 == 0, slabs: [2]*slab.Slab{slab.New(), slab.New()}, k: &book{disks: [2]*disk{{fuse: -1}, {fuse: -1}}}}
		calls := 40
		if g.great {
			calls = 250
		}
		if r.Intn(5) == 0 {
			g.past()
		}
		for range calls {
			var name string
			var got, want api.Errno
			if r.Intn(8) == 0 && (!g.great || r.Intn(10) == 0) {
				name = "meddled"
				got, want = g.meddle()
			} else {
				name, got, want = g.act()
			}
			if got != want {
				t.Fatalf("P17.1: %s: %d; want %d", name, got, want)
			}
			g.check(t, name)
			if met[name] == nil {
				met[name] = map[api.Errno]int{}
			}
			met[name][got]++
		}
	}
	for name, errs := range map[string][]api.Errno{
		"Open":    {api.OK, api.ErrDown, api.ErrLimit},
		"Put":     {api.OK, api.ErrDown, api.ErrLimit, api.ErrFull},
		"Drop":    {api.OK, api.ErrDown, api.ErrNone, api.ErrFull},
		"Sync":    {api.OK, api.ErrDown, api.ErrFull},
		"Compact": {api.OK, api.ErrDown, api.ErrFull},
		"Dead":    {api.OK, api.ErrDown, api.ErrFull},
	} {
		for _, e := range errs {
			if met[name][e] < 9 {
				t.Errorf("%s: the error %d was met %d times", name, e, met[name][e])
			}
		}
	}
}
