package mill_test

import (
	"bytes"
	"crypto/sha256"
	"encoding/hex"
	"testing"

	"tollhouse/api"
	"tollhouse/mill"
)

// ramp are so many bytes, no two neighbours alike.
func ramp(n int) []byte {
	p := make([]byte, n)
	for i := range p {
		p[i] = byte(i*7 + i/256)
	}
	return p
}

// sum is the library's, to hold the mill's against.
func sum(p []byte) api.Digest { return sha256.Sum256(p) }

func digest(t *testing.T, text string) api.Digest {
	t.Helper()
	var d api.Digest
	if n, err := hex.Decode(d[:], []byte(text)); err != nil || n != len(d) {
		t.Fatalf("%q is no sum", text)
	}
	return d
}

// cut cuts p into parts of so many bytes.
func cut(p []byte, n int) [][]byte {
	var l [][]byte
	for len(p) > n {
		l, p = append(l, p[:n]), p[n:]
	}
	return append(l, p)
}

// text is what the chapter says that is summed for a domain.
func text(domain uint8, l ...[]byte) []byte {
	p := []byte{domain, byte(len(l) % 256)}
	for _, part := range l {
		n := len(part)
		p = append(p, byte(n/(1<<24)), byte(n/(1<<16)), byte(n/(1<<8)), byte(n))
		p = append(p, part...)
	}
	return p
}

// P3.1: the standard's own examples.
func TestStandard(t *testing.T) {
	for _, c := range []struct {
		name string
		in   []byte
		want string
	}{
		{"nothing", nil, "e3b0c44298fc1c149afbf4c8996fb92427ae41e4649b934ca495991b7852b855"},
		{"abc", []byte("abc"), "ba7816bf8f01cfea414140de5dae2223b00361a396177a9cb410ff61f20015ad"},
		{"56 bytes", []byte("abcdbcdecdefdefgefghfghighijhijkijkljklmklmnlmnomnopnopq"), "248d6a61d20638b8e5c026930c3e6039a33ce45964ff2167f6ecedd419db06c1"},
		{"112 bytes", []byte("abcdefghbcdefghicdefghijdefghijkefghijklfghijklmghijklmnhijklmnoijklmnopjklmnopqklmnopqrlmnopqrsmnopqrstnopqrstu"), "cf5b16a778af8380036ce59e7b0492370b249b11e8f07a51afac45037afee9d1"},
		{"a million", bytes.Repeat([]byte("a"), 1000000), "cdc76e5c9914fb9281a1c7e284d73e67f1809a48a497200e046d39ccc7112cd0"},
	} {
		want := digest(t, c.want)
		if d := mill.Of(c.in); d != want {
			t.Errorf("P3.1: Of, %s: %x, want %x", c.name, d, want)
		}
		p := mill.New()
		p.Write(c.in)
		if d := p.Sum(); d != want {
			t.Errorf("P3.1: Write, %s: %x, want %x", c.name, d, want)
		}
	}
}

// P3.1: lengths on both sides of each of the first blocks' ends, and of where the count still fits.
func TestLengths(t *testing.T) {
	for n := range 4*64 + 2 {
		if d := mill.Of(ramp(n)); d != sum(ramp(n)) {
			t.Errorf("P3.1: %d bytes: %x, want %x", n, d, sum(ramp(n)))
		}
	}
	// Here the count of bits needs its third byte, and its fourth one.
	for _, n := range []int{8191, 8192, 8193, 1<<21 - 1, 1 << 21, 1<<21 + 1} {
		if d := mill.Of(ramp(n)); d != sum(ramp(n)) {
			t.Errorf("P3.1: %d bytes: %x, want %x", n, d, sum(ramp(n)))
		}
	}
}

// P3.1: the count of bits needs its fifth byte.
func TestGreat(t *testing.T) {
	if testing.Short() {
		t.Skip("some seconds")
	}
	part := ramp(1 << 20)
	p, reference := mill.New(), sha256.New()
	for range 1 << 9 {
		p.Write(part)
		reference.Write(part)
	}
	if d, want := p.Sum(), api.Digest(reference.Sum(nil)); d != want {
		t.Errorf("P3.1: 2^29 bytes: %x, want %x", d, want)
	}
}

// P3.1: no parts, and parts of no bytes.
func TestNothing(t *testing.T) {
	nothing := sum(nil)
	for _, d := range []api.Digest{mill.Of(), mill.Of(nil), mill.Of([]byte{}), mill.Of(nil, []byte{}, nil), mill.New().Sum()} {
		if d != nothing {
			t.Errorf("P3.1: nothing: %x, want %x", d, nothing)
		}
	}
	p := mill.New()
	p.Write()
	p.Write(nil, nil)
	p.Write([]byte{})
	if d := p.Sum(); d != nothing {
		t.Errorf("P3.1: nothing written: %x, want %x", d, nothing)
	}
	p.Write(nil, []byte("ab"), nil, []byte("c"), []byte{})
	p.Write()
	if d := p.Sum(); d != sum([]byte("abc")) {
		t.Errorf("P3.1: with empty parts between: %x", d)
	}
}

// P3.1: more may come behind a sum that was asked for.
func TestSumMeanwhile(t *testing.T) {
	all := ramp(200)
	p, once := mill.New(), mill.New()
	for n := range all {
		if d := p.Sum(); d != sum(all[:n]) {
			t.Errorf("P3.1: behind %d bytes: %x, want %x", n, d, sum(all[:n]))
		}
		if p.Sum() != p.Sum() {
			t.Errorf("P3.1: behind %d bytes: two sums", n)
		}
		p.Write(all[n : n+1])
		once.Write(all[n : n+1])
	}
	if p.Sum() != sum(all) || once.Sum() != sum(all) {
		t.Errorf("P3.1: asked meanwhile %x, not asked %x, want %x", p.Sum(), once.Sum(), sum(all))
	}
}

// P3.1: the parts' order counts, and mills have nothing to do with each other.
func TestOrder(t *testing.T) {
	if mill.Of([]byte("a"), []byte("b")) != sum([]byte("ab")) || mill.Of([]byte("b"), []byte("a")) != sum([]byte("ba")) {
		t.Error("P3.1: Of: the order")
	}
	p, q := mill.New(), mill.New()
	p.Write([]byte("a"))
	q.Write([]byte("b"), []byte("d"))
	p.Write([]byte("c"))
	if p.Sum() != sum([]byte("ac")) || q.Sum() != sum([]byte("bd")) {
		t.Errorf("P3.1: two mills: %x, %x", p.Sum(), q.Sum())
	}
}

// P3.1: a nil mill takes nothing; one that New didn't make doesn't panic.
func TestNilMill(t *testing.T) {
	var p *mill.Mill
	p.Write()
	p.Write([]byte("a"), nil)
	if d := p.Sum(); d != (api.Digest{}) {
		t.Errorf("P3.1: nil: %x", d)
	}
	var zero mill.Mill
	zero.Write(ramp(200), nil)
	zero.Sum()
}

// P3.1, R3: what is handed in is neither changed nor kept, nor is the room behind it.
func TestKeepsNothing(t *testing.T) {
	for _, n := range []int{3, 63, 64, 65, 200} {
		room := ramp(n + 100)
		part := room[:n]
		parts := [][]byte{part, part, []byte("behind")}
		want := sum(append(ramp(n), ramp(n)...))
		p := mill.New()
		p.Write(parts[:2]...)
		of, dom := mill.Of(parts[:2]...), mill.For(mill.Leaf, parts[:2]...)
		if !bytes.Equal(room, ramp(n+100)) || string(parts[2]) != "behind" || &parts[0][0] != &room[0] {
			t.Errorf("R3: %d bytes: an argument or the room behind it was changed", n)
		}
		clear(room)
		clear(parts)
		if of != want || p.Sum() != want || dom != sum(text(mill.Leaf, ramp(n), ramp(n))) {
			t.Errorf("R3: %d bytes: an argument was kept", n)
		}
	}
}

// P3.2: the domains' numbers.
func TestDomains(t *testing.T) {
	got := [7]uint8{mill.Secret, mill.Leaf, mill.Node, mill.State, mill.Piece, mill.Cover, mill.Draw}
	if want := [7]uint8{1, 2, 3, 4, 5, 6, 7}; got != want {
		t.Errorf("P3.2: domains: %v, want %v", got, want)
	}
}

// P3.2: what is summed for a domain, written out.
func TestForWrittenOut(t *testing.T) {
	for _, c := range []struct {
		name string
		got  api.Digest
		want string
	}{
		{"no parts", mill.For(mill.Secret), "\x01\x00"},
		{"one", mill.For(mill.Leaf, []byte("a")), "\x02\x01\x00\x00\x00\x01a"},
		{"one of no bytes", mill.For(mill.Node, nil), "\x03\x01\x00\x00\x00\x00"},
		{"three", mill.For(mill.State, []byte("ab"), []byte{}, []byte("c")), "\x04\x03\x00\x00\x00\x02ab\x00\x00\x00\x00\x00\x00\x00\x01c"},
		{"a domain without a name", mill.For(0, []byte("a")), "\x00\x01\x00\x00\x00\x01a"},
		{"the greatest domain", mill.For(255, []byte("a")), "\xff\x01\x00\x00\x00\x01a"},
	} {
		if want := sum([]byte(c.want)); c.got != want {
			t.Errorf("P3.2: For, %s: %x, want %x", c.name, c.got, want)
		}
	}
}

// P3.2: parts of many lengths, and more parts than a byte counts.
func TestFor(t *testing.T) {
	for _, n := range []int{0, 1, 57, 58, 59, 63, 64, 65, 255, 256, 257, 65535, 65536, 1 << 24} {
		p := ramp(n)
		if d := mill.For(mill.Piece, p, p); d != sum(text(mill.Piece, p, p)) {
			t.Errorf("P3.2: For, parts of %d bytes: %x", n, d)
		}
	}
	for _, n := range []int{0, 1, 2, 254, 255, 256, 257, 512, 1000} {
		l := make([][]byte, n)
		for i := range l {
			l[i] = ramp(i % 5)
		}
		if d := mill.For(mill.Draw, l...); d != sum(text(mill.Draw, l...)) {
			t.Errorf("P3.2: For, %d parts: %x", n, d)
		}
	}
}

// P3.2: the lock of a secret.
func TestLock(t *testing.T) {
	s := api.Secret(ramp(32))
	for _, s := range []api.Secret{{}, {1}, {31: 1}, s} {
		if h := mill.Lock(s); h != api.Hash(sum(append([]byte{6, 1, 0, 0, 0, 32}, s[:]...))) {
			t.Errorf("P3.2: Lock of %x: %x", s, h)
		}
		if mill.Lock(s) != api.Hash(mill.For(mill.Cover, s[:])) {
			t.Errorf("P3.2: Lock of %x is not the sum for Cover", s)
		}
	}
}

// P3.3: the notes of a log, one behind the other, and what it says of them.
func TestLog(t *testing.T) {
	a, b := api.Digest{1, 2, 3, 4}, api.Digest{1, 2, 3, 5}
	type note struct {
		d    api.Digest
		text []byte
	}
	for _, c := range []struct {
		name  string
		notes []note
		met   bool
		many  int
	}{
		{"no notes", nil, false, 0},
		{"one", []note{{a, []byte("x")}}, false, 1},
		{"like ones", []note{{a, []byte("x")}, {a, []byte("x")}, {a, []byte("x")}}, false, 1},
		{"unlike ones", []note{{a, []byte("x")}, {a, []byte("y")}}, true, 1},
		{"one again behind an unlike one", []note{{a, []byte("x")}, {a, []byte("y")}, {a, []byte("x")}}, true, 1},
		{"the unlike one again", []note{{a, []byte("x")}, {a, []byte("y")}, {a, []byte("y")}, {a, []byte("y")}}, true, 1},
		{"unlike ones by unlike beginnings", []note{{a, []byte("x")}, {b, []byte("y")}, {a, []byte("x")}, {b, []byte("y")}}, false, 2},
		{"one by unlike beginnings", []note{{a, []byte("x")}, {b, []byte("x")}}, false, 2},
		{"met, and then others", []note{{a, []byte("x")}, {a, []byte("y")}, {b, []byte("x")}, {b, []byte("x")}}, true, 2},
		{"met behind others", []note{{a, []byte("x")}, {b, []byte("x")}, {a, []byte("y")}}, true, 2},
		{"an empty one", []note{{a, nil}}, false, 1},
		{"empty ones", []note{{a, nil}, {a, []byte{}}, {a, nil}}, false, 1},
		{"one behind an empty one", []note{{a, nil}, {a, []byte("x")}}, true, 1},
		{"an empty one behind one", []note{{a, []byte("x")}, {a, []byte{}}}, true, 1},
		{"a beginning of the other", []note{{a, []byte("x")}, {a, []byte("xy")}}, true, 1},
		{"zeros behind", []note{{a, []byte("x")}, {a, []byte("x\x00")}}, true, 1},
		{"the zero sum", []note{{api.Digest{}, []byte("x")}, {api.Digest{}, []byte("y")}}, true, 1},
		{"the sum is not the text's", []note{{sum([]byte("x")), []byte("z")}, {sum([]byte("x")), []byte("z")}}, false, 1},
	} {
		var l mill.Log
		for _, n := range c.notes {
			l.Note(n.d, n.text)
		}
		for range 2 {
			if l.Met() != c.met || l.Many() != c.many {
				t.Errorf("P3.3: %s: met %v, many %d; want %v, %d", c.name, l.Met(), l.Many(), c.met, c.many)
			}
		}
	}
}

// P3.3: each of the first four bytes of a sum counts, and none behind them.
func TestLogBeginning(t *testing.T) {
	for at := range 32 {
		var l mill.Log
		l.Note(api.Digest{}, []byte("x"))
		d := api.Digest{}
		d[at] = 1
		l.Note(d, []byte("x"))
		many := 1
		if at < 4 {
			many = 2
		}
		if l.Met() || l.Many() != many {
			t.Errorf("P3.3: unlike at %d: met %v, many %d; want false, %d", at, l.Met(), l.Many(), many)
		}
		l.Note(d, []byte("y"))
		if !l.Met() || l.Many() != many {
			t.Errorf("P3.3: unlike at %d, met: met %v, many %d; want true, %d", at, l.Met(), l.Many(), many)
		}
	}
}

// P3.3: many notes, by their sums.
func TestLogMany(t *testing.T) {
	var l mill.Log
	for range 2 {
		for i := range 1000 {
			p := ramp(i)
			l.Note(mill.Of(p), p)
		}
		if l.Met() || l.Many() != 1000 {
			t.Errorf("P3.3: many: met %v, many %d; want false, 1000", l.Met(), l.Many())
		}
	}
}

// P3.3: of a nil log nothing.
func TestNilLog(t *testing.T) {
	var l *mill.Log
	l.Note(api.Digest{}, nil)
	l.Note(api.Digest{1}, []byte("x"))
	l.Note(api.Digest{1}, []byte("y"))
	if l.Met() || l.Many() != 0 {
		t.Errorf("P3.3: nil: met %v, many %d", l.Met(), l.Many())
	}
}

// P3.3, R3: a text is neither changed nor kept; R5: logs have nothing to do with each other.
func TestLogKeepsNothing(t *testing.T) {
	var l, other mill.Log
	room := []byte("text, and more")
	l.Note(api.Digest{1}, room[:4])
	if string(room) != "text, and more" {
		t.Errorf("R3: the text or the room behind it was changed: %q", room)
	}
	copy(room, "TEXT")
	l.Note(api.Digest{1}, []byte("text"))
	if l.Met() {
		t.Error("R3: the text was kept")
	}
	l.Note(api.Digest{1}, room[:4])
	if !l.Met() {
		t.Error("P3.3: unlike texts in one memory: not met")
	}
	if other.Met() || other.Many() != 0 {
		t.Errorf("R5: the other log: met %v, many %d", other.Met(), other.Many())
	}
}

// P3.4: in whatever parts bytes come, the sum is the same.
func TestAnyParts(t *testing.T) {
	all := ramp(300)
	want := sum(all)
	for n := 1; n <= len(all); n++ {
		l := cut(all, n)
		if d := mill.Of(l...); d != want {
			t.Errorf("P3.4: Of parts of %d bytes: %x, want %x", n, d, want)
		}
		once, single := mill.New(), mill.New()
		once.Write(l...)
		for _, part := range l {
			single.Write(part)
		}
		if once.Sum() != want || single.Sum() != want {
			t.Errorf("P3.4: parts of %d bytes: at once %x, one by one %x, want %x", n, once.Sum(), single.Sum(), want)
		}
	}
	for n := range len(all) + 1 {
		p := mill.New()
		p.Write(all[:n], nil)
		p.Write([]byte{}, all[n:])
		if mill.Of(all[:n], all[n:]) != want || p.Sum() != want {
			t.Errorf("P3.4: cut at %d: %x, %x, want %x", n, mill.Of(all[:n], all[n:]), p.Sum(), want)
		}
	}
}

// P3.4: no other domain's, and no other parts' text.
func TestForApart(t *testing.T) {
	none := func(n int) [][]byte { return make([][]byte, n) }
	lists := [][][]byte{
		nil,
		{nil},
		{nil, nil},
		{[]byte("a")},
		{[]byte("ab")},
		{[]byte("a"), []byte("b")},
		{[]byte("b"), []byte("a")},
		{nil, []byte("ab")},
		{[]byte("ab"), nil},
		{[]byte("ab"), nil, nil},
		{[]byte("a\x00\x00\x00\x01b")},
		{[]byte{0}},
		{[]byte{0, 0, 0, 0}},
		{[]byte{0, 0, 0, 0, 0}},
		none(255),
		none(256),
		none(257),
		none(512),
		{ramp(256)},
		{ramp(256), nil},
	}
	seen := map[api.Digest]bool{}
	for domain := range 256 {
		for i, l := range lists {
			d := mill.For(uint8(domain), l...)
			if seen[d] {
				t.Errorf("P3.4: domain %d, list %d: another one's sum", domain, i)
			}
			seen[d] = true
			if d != sum(text(uint8(domain), l...)) {
				t.Errorf("P3.4: domain %d, list %d: %x", domain, i, d)
			}
		}
	}
}
