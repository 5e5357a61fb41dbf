package slab_test

import (
	"bytes"
	"slices"
	"testing"

	"tollhouse/api"
	"tollhouse/slab"
)

// R3: bytes handed in aren't turned, nor the room behind them, and aren't kept.
func TestHandedInIsntKept(t *testing.T) {
	room := []byte("abcdefgh")
	s := slab.New()
	for i := range 4 {
		must(t, s.Append(room[:2+i]))
		if string(room) != "abcdefgh" {
			t.Fatalf("R3: turned: %q", room)
		}
	}
	clear(room)
	want(t, "kept on its own", s, "", "ab"+"abc"+"abcd"+"abcde", 4)
	must(t, s.Sync(), s.Append([]byte("more")))
	if !bytes.Equal(room, make([]byte, 8)) {
		t.Errorf("R3: turned later on: %q", room)
	}
}

// R3: bytes that are refused aren't turned either.
func TestRefusedStays(t *testing.T) {
	p := bytes.Repeat([]byte("p"), slab.MaxSize+1)
	s := made(t, "a", "")
	if e := s.Append(p); e != api.ErrFull || bytes.Count(p, []byte("p")) != len(p) {
		t.Errorf("R3: %d", e)
	}
	must(t, s.Fuse(0))
	if e := s.Append(p[:3]); e != api.ErrDown || string(p[:4]) != "pppp" {
		t.Errorf("R3: %d, %q", e, p[:4])
	}
}

// R3: bytes handed out are new memory, their spare room too.
func TestHandedOutIsNew(t *testing.T) {
	s := made(t, "abc", "def")
	var all [][]byte
	for range 4 {
		p, e := s.Read()
		if e != api.OK || string(p) != "abcdef" {
			t.Fatalf("P16.1: %q, %d", p, e)
		}
		_ = append(p, "scribbled behind"...)
		clear(p[:cap(p)])
		all = append(all, p)
	}
	for i, p := range all {
		for k := range p[:cap(p)] {
			p[:cap(p)][k] = byte(i + 1)
		}
	}
	for i, p := range all {
		if slices.ContainsFunc(p[:cap(p)], func(b byte) bool { return b != byte(i+1) }) {
			t.Errorf("R3: two answers share memory: %v", p)
		}
	}
	want(t, "as it was", s, "abc", "def", 3)
}

// R3: what is laid or lost later on isn't seen in bytes handed out earlier.
func TestHandedOutStays(t *testing.T) {
	s := made(t, "abc", "def")
	p, _ := s.Read()
	must(t, s.Append([]byte("ghi")))
	crashed(t, s, 1, 2)
	must(t, s.Append([]byte("xyz")), s.Erase(), s.Append([]byte("123456")), s.Sync())
	if string(p) != "abcdef" {
		t.Errorf("R3: %q", p)
	}
}

// R3: bytes that were read may be laid again, with room behind them or without.
func TestOwnBytesAgain(t *testing.T) {
	s := made(t, "ab", "")
	for range 3 {
		p, _ := s.Read()
		must(t, s.Append(p))
	}
	want(t, "doubled", s, "ab", "ababababababab", 5)
}

// R4: nil and no bytes are one; both are a step.
func TestNilAndEmpty(t *testing.T) {
	for _, p := range [][]byte{nil, {}, make([]byte, 0, 9)} {
		s := made(t, "ab", "c")
		must(t, s.Append(p))
		want(t, "nothing", s, "ab", "c", 4)
		must(t, s.Fuse(0))
		if e := s.Append(p); e != api.ErrDown || !s.Down() {
			t.Errorf("R4: an Append of nothing with the fuse 0: %d", e)
		}
	}
	p, e := slab.New().Read()
	if len(p) != 0 || e != api.OK {
		t.Errorf("P16.1: an empty slab: %q, %d", p, e)
	}
	_ = append(p, 1, 2, 3)
}
