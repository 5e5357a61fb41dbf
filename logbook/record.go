package logbook

import (
	"tollhouse/octet"
)

// kind is what a record is for.
type kind uint8

// The kinds.
const (
	begin kind = 1 + iota
	entry
	gone
	seal
)

const (
	// end stands behind each record's body. It isn't 0, so that zeros never end one.
	end = 0xa5
	// headSize is how many bytes tell how long a body is.
	headSize = 4
	// lifeSize is how many bytes a life has.
	lifeSize = 4
)

// record is what is laid at once.
type record struct {
	kind  kind
	name  string
	value []byte
}

// lay lays the record behind an Out.
func (r record) lay(o octet.Out) octet.Out {
	body := octet.Out{}.One(uint8(r.kind), uint8(len(r.name)))
	body = append(body, r.name...)
	body = append(body, r.value...)
	return o.Blob(body).One(end)
}

// next is the first record of some bytes, and what is behind it; false, if it isn't whole. Its value is a piece of the bytes.
//
// A body may be longer than an In's Blob may be, so an In takes only how long it is.
func next(p []byte) (r record, rest []byte, ok bool) {
	if len(p) < headSize {
		return record{}, nil, false
	}
	size, p := uint64(octet.Of(p[:headSize]).Four()), p[headSize:]
	if size >= uint64(len(p)) || p[size] != end {
		return record{}, nil, false
	}
	r, ok = of(p[:size])
	return r, p[size+1:], ok
}

// of is the record of a body.
func of(body []byte) (record, bool) {
	if len(body) < 2 || len(body)-2 < int(body[1]) {
		return record{}, false
	}
	name, value := body[2:2+int(body[1])], body[2+int(body[1]):]
	return record{kind: kind(body[0]), name: string(name), value: value}, true
}
