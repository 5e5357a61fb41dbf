package logbook

import (
	"maps"
	"slices"
	"tollhouse/octet"
)

// tale is what a slab tells.
type tale struct {
	life   uint32
	values map[string][]byte
	sealed bool
}

// tell goes on as long as what follows is to be believed. A slab that doesn't begin rightly tells nothing.
func tell(p []byte) tale {
	t := tale{values: map[string][]byte{}}
	r, rest, ok := next(p)
	if !ok || r.kind != begin || len(r.value) != lifeSize {
		return t
	}
	t.life = octet.Of(r.value).Four()
	for {
		r, rest, ok = next(rest)
		if !ok || !t.hear(r) {
			return t
		}
	}
}

// hear takes a record in that stands behind the first one. It is false of one that can't stand there.
func (t *tale) hear(r record) bool {
	switch r.kind {
	case entry:
		// The bytes belong to whoever laid them, or to a whole slab's.
		t.values[r.name] = slices.Clone(r.value)
	case gone:
		delete(t.values, r.name)
	case seal:
		t.sealed = true
	default:
		return false
	}
	return true
}

// pick is the tale that counts, and on which slab it is. Where none does, a new life must begin on the first slab: so it is as if it were on the second one.
func pick(tales [2]tale) (int, tale) {
	on, best := 1, tale{values: map[string][]byte{}}
	for i, t := range tales {
		if t.sealed && (!best.sealed || t.life > best.life) {
			on, best = i, t
		}
	}
	return on, best
}

// lay are the bytes that tell the same, in another life, with a seal.
func (t *tale) lay(life uint32) octet.Out {
	o := record{kind: begin, value: octet.Out{}.Four(life)}.lay(nil)
	for _, name := range slices.Sorted(maps.Keys(t.values)) {
		o = record{kind: entry, name: name, value: t.values[name]}.lay(o)
	}
	return record{kind: seal}.lay(o)
}
