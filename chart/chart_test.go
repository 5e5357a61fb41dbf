package chart_test

import (
	"math"
	"slices"
	"testing"

	"tollhouse/api"
	"tollhouse/chart"
)

// parts are X and Y of spots on the chart, its edges among them.
var parts = []int{-1000, -999, -500, -31, -1, 0, 1, 2, 32, 500, 999, 1000}

// beyond are X and Y of spots that aren't on the chart.
var beyond = []int{-1001, 1001, 2000, -2000, 1 << 32, -1 << 32, 1<<53 + 1, math.MinInt, math.MinInt + 1, math.MaxInt - 1, math.MaxInt}

func at(x, y int) chart.Spot { return chart.Spot{X: x, Y: y} }

// spots are all of the parts.
func spots() []chart.Spot {
	var l []chart.Spot
	for _, x := range parts {
		for _, y := range parts {
			l = append(l, at(x, y))
		}
	}
	return l
}

// strays are spots that aren't on the chart, by X, by Y, by both.
func strays() []chart.Spot {
	var l []chart.Spot
	for _, b := range beyond {
		l = append(l, at(b, 0), at(0, b), at(b, 1000), at(-1000, b), at(b, b))
	}
	return l
}

// fit is what comes, or why it doesn't.
func fit(x, y int) (chart.Spot, api.Errno) {
	if max(x, -x, y, -y) > 1000 {
		return chart.Spot{}, api.ErrOver
	}
	return at(x, y), api.OK
}

// turned is X and Y, turned by quarters, written out.
func turned(x, y, quarters int) (int, int) {
	switch quarters {
	case 1:
		return -y, x
	case 2:
		return -x, -y
	case 3:
		return y, -x
	}
	return x, y
}

// quarters are numbers of quarters, and what they are modulo 4.
var quarters = []struct{ n, is int }{
	{0, 0}, {1, 1}, {2, 2}, {3, 3}, {4, 0}, {5, 1}, {6, 2}, {7, 3}, {8, 0}, {1000001, 1},
	{-1, 3}, {-2, 2}, {-3, 1}, {-4, 0}, {-5, 3}, {-6, 2}, {-7, 1}, {-8, 0}, {-1000001, 3},
	{math.MaxInt, 3}, {math.MaxInt - 1, 2}, {math.MaxInt - 2, 1}, {math.MaxInt - 3, 0},
	{math.MinInt, 0}, {math.MinInt + 1, 1}, {math.MinInt + 2, 2}, {math.MinInt + 3, 3},
}

// P6.1: sums and products, against whole numbers.
func TestMoveTimes(t *testing.T) {
	for _, a := range spots() {
		for _, b := range spots() {
			want, e := fit(a.X+b.X, a.Y+b.Y)
			if got, f := chart.Move(a, b); got != want || f != e {
				t.Fatalf("P6.1: Move(%v, %v): %v, %d; want %v, %d", a, b, got, f, want, e)
			}
			want, e = fit(a.X*b.X-a.Y*b.Y, a.X*b.Y+a.Y*b.X)
			if got, f := chart.Times(a, b); got != want || f != e {
				t.Fatalf("P6.1: Times(%v, %v): %v, %d; want %v, %d", a, b, got, f, want, e)
			}
		}
	}
}

// P6.1: sums and products at the chart's edge and one beyond it, written out.
func TestMoveTimesEdges(t *testing.T) {
	for _, c := range []struct {
		name       string
		call       func(a, b chart.Spot) (chart.Spot, api.Errno)
		a, b, want chart.Spot
		e          api.Errno
	}{
		{"Move", chart.Move, at(3, -4), at(-5, 1), at(-2, -3), api.OK},
		{"Move", chart.Move, at(999, 0), at(1, 0), at(1000, 0), api.OK},
		{"Move", chart.Move, at(1000, 0), at(1, 0), at(0, 0), api.ErrOver},
		{"Move", chart.Move, at(-1000, 0), at(-1, 0), at(0, 0), api.ErrOver},
		{"Move", chart.Move, at(0, 999), at(0, 1), at(0, 1000), api.OK},
		{"Move", chart.Move, at(0, 1), at(0, 1000), at(0, 0), api.ErrOver},
		{"Move", chart.Move, at(7, -1000), at(0, -1), at(0, 0), api.ErrOver},
		{"Move", chart.Move, at(-1000, 1000), at(1000, -1000), at(0, 0), api.OK},
		{"Move", chart.Move, at(1000, 1000), at(1000, 1000), at(0, 0), api.ErrOver},
		{"Times", chart.Times, at(1, 2), at(3, 4), at(-5, 10), api.OK},
		{"Times", chart.Times, at(0, 1), at(0, 1), at(-1, 0), api.OK},
		{"Times", chart.Times, at(25, 0), at(40, 0), at(1000, 0), api.OK},
		{"Times", chart.Times, at(7, 0), at(143, 0), at(0, 0), api.ErrOver},
		{"Times", chart.Times, at(7, 0), at(0, -143), at(0, 0), api.ErrOver},
		{"Times", chart.Times, at(0, 25), at(0, 40), at(-1000, 0), api.OK},
		{"Times", chart.Times, at(1000, 1000), at(0, 1), at(-1000, 1000), api.OK},
		{"Times", chart.Times, at(1000, 1000), at(1, 1), at(0, 0), api.ErrOver},
		{"Times", chart.Times, at(1000, -1000), at(0, 0), at(0, 0), api.OK},
		{"Times", chart.Times, at(-1000, -1000), at(-1000, 1000), at(0, 0), api.ErrOver},
	} {
		if got, e := c.call(c.a, c.b); got != c.want || e != c.e {
			t.Errorf("P6.1: %s(%v, %v): %v, %d; want %v, %d", c.name, c.a, c.b, got, e, c.want, c.e)
		}
	}
}

// P6.1: turned by quarters, of any number, about any spot.
func TestTurn(t *testing.T) {
	for _, s := range spots() {
		for _, about := range spots() {
			for _, q := range quarters {
				x, y := turned(s.X-about.X, s.Y-about.Y, q.is)
				want, e := fit(about.X+x, about.Y+y)
				if got, f := chart.Turn(s, about, q.n); got != want || f != e {
					t.Fatalf("P6.1: Turn(%v, %v, %d): %v, %d; want %v, %d", s, about, q.n, got, f, want, e)
				}
			}
		}
	}
}

// P6.1: turned, at the chart's edge and beyond it, written out.
func TestTurnEdges(t *testing.T) {
	for _, c := range []struct {
		s, about chart.Spot
		n        int
		want     chart.Spot
		e        api.Errno
	}{
		{at(2, 0), at(0, 0), 1, at(0, 2), api.OK},
		{at(2, 0), at(0, 0), -1, at(0, -2), api.OK},
		{at(2, 0), at(0, 0), 2, at(-2, 0), api.OK},
		{at(3, 1), at(1, 1), 1, at(1, 3), api.OK},
		{at(1000, 1000), at(0, 0), 1, at(-1000, 1000), api.OK},
		{at(999, 0), at(1000, 0), 2, at(0, 0), api.ErrOver},
		{at(1000, 0), at(1000, 0), 2, at(1000, 0), api.OK},
		{at(1000, 1), at(1000, 0), 3, at(0, 0), api.ErrOver},
		{at(1000, 1), at(1000, 0), 1, at(999, 0), api.OK},
		// What is turned may be further than the chart is wide, as long as what comes isn't.
		{at(800, -400), at(-400, -400), 1, at(-400, 800), api.OK},
		{at(1000, 1000), at(-1000, -1000), 0, at(1000, 1000), api.OK},
		{at(1000, 1000), at(-1000, -1000), 4, at(1000, 1000), api.OK},
		{at(1000, 1000), at(-1000, -1000), 2, at(0, 0), api.ErrOver},
	} {
		if got, e := chart.Turn(c.s, c.about, c.n); got != c.want || e != c.e {
			t.Errorf("P6.1: Turn(%v, %v, %d): %v, %d; want %v, %d", c.s, c.about, c.n, got, e, c.want, c.e)
		}
	}
}

// P6.1.
func TestMirror(t *testing.T) {
	for _, s := range spots() {
		if got, e := chart.Mirror(s); got != at(s.X, -s.Y) || e != api.OK {
			t.Errorf("P6.1: Mirror(%v): %v, %d", s, got, e)
		}
	}
}

// P6.1: a spot that isn't on the chart is ErrArg, ahead of what would come of it.
func TestStraysAreRefused(t *testing.T) {
	nothing := func(name string, got chart.Spot, e api.Errno) {
		t.Helper()
		if got != (chart.Spot{}) || e != api.ErrArg {
			t.Errorf("P6.1: %s: %v, %d; want ErrArg", name, got, e)
		}
	}
	for _, s := range strays() {
		got, e := chart.Mirror(s)
		nothing("Mirror", got, e)
		for _, other := range []chart.Spot{at(0, 0), at(1000, -1000), at(-1000, -1000), at(-1, -1), at(1, 0), s} {
			got, e = chart.Move(s, other)
			nothing("Move, first", got, e)
			got, e = chart.Move(other, s)
			nothing("Move, second", got, e)
			got, e = chart.Times(s, other)
			nothing("Times, first", got, e)
			got, e = chart.Times(other, s)
			nothing("Times, second", got, e)
			for _, q := range quarters {
				got, e = chart.Turn(s, other, q.n)
				nothing("Turn, first", got, e)
				got, e = chart.Turn(other, s, q.n)
				nothing("Turn, second", got, e)
			}
		}
	}
}

// P6.2.
func TestFar(t *testing.T) {
	for _, a := range spots() {
		for _, b := range spots() {
			x, y := a.X-b.X, a.Y-b.Y
			if got := chart.Far(a, b); got != x*x+y*y {
				t.Fatalf("P6.2: Far(%v, %v): %d; want %d", a, b, got, x*x+y*y)
			}
		}
	}
	if chart.Far(at(3, 0), at(0, 4)) != 25 || chart.Far(at(-1000, -1000), at(1000, 1000)) != 8000000 || chart.Far(at(5, 6), at(5, 6)) != 0 {
		t.Error("P6.2: Far, written out")
	}
	for _, s := range strays() {
		for _, other := range []chart.Spot{at(0, 0), at(1000, 1000), s} {
			if chart.Far(s, other) != -1 || chart.Far(other, s) != -1 {
				t.Errorf("P6.2: Far of %v and %v, which isn't on the chart, isn't -1", other, s)
			}
		}
	}
}

// P6.2: the least far one, the first of several; those that aren't on the chart don't count.
func TestNearest(t *testing.T) {
	out := at(1001, 0)
	for _, c := range []struct {
		to   chart.Spot
		l    []chart.Spot
		want int
	}{
		{at(0, 0), nil, -1},
		{at(0, 0), []chart.Spot{}, -1},
		{at(0, 0), []chart.Spot{at(1000, 1000)}, 0},
		{at(0, 0), []chart.Spot{at(2, 0), at(0, 1)}, 1},
		{at(0, 0), []chart.Spot{at(0, 1), at(2, 0)}, 0},
		{at(0, 0), []chart.Spot{at(3, 0), at(0, 2), at(-2, 0), at(2, 0)}, 1},
		{at(0, 0), []chart.Spot{at(5, 0), at(3, 4), at(-4, 3)}, 0},
		{at(7, 7), []chart.Spot{at(7, 6), at(7, 7), at(7, 7)}, 1},
		{at(0, 0), []chart.Spot{at(3, 3), at(0, 4)}, 1},
		{at(-1000, -1000), []chart.Spot{at(1000, 1000), at(1000, 999)}, 1},
		{at(1000, 0), []chart.Spot{out, at(-1000, 0)}, 1},
		{at(1000, 0), []chart.Spot{at(-1000, 0), out}, 0},
		{at(1000, 0), []chart.Spot{out, at(0, -1001), at(5, 5), out, at(6, 5)}, 4},
		{at(0, 0), []chart.Spot{out}, -1},
		{at(0, 0), []chart.Spot{out, at(0, 1001), at(math.MinInt, math.MaxInt)}, -1},
		{out, []chart.Spot{at(1000, 0)}, -1},
		{out, []chart.Spot{out, at(0, 0)}, -1},
		{at(0, math.MinInt), []chart.Spot{at(0, 0), at(1, 1)}, -1},
		{out, nil, -1},
	} {
		if got := chart.Nearest(c.to, c.l...); got != c.want {
			t.Errorf("P6.2: Nearest(%v, %v): %d; want %d", c.to, c.l, got, c.want)
		}
	}
}

// P6.2: among many, and wherever strays lie between them.
func TestNearestOfMany(t *testing.T) {
	l := append(append(strays(), spots()...), strays()...)
	for _, to := range append(spots(), at(17, -250), at(-749, 750)) {
		want, least := -1, math.MaxInt
		for i, s := range l {
			if slices.Contains(spots(), s) && chart.Far(to, s) < least {
				want, least = i, chart.Far(to, s)
			}
		}
		if got := chart.Nearest(to, l...); got != want {
			t.Errorf("P6.2: Nearest to %v: %d; want %d", to, got, want)
		}
	}
}

// R3: the spots that are handed in stay as they are, the room behind them too.
func TestNearestChangesNothing(t *testing.T) {
	l := spots()
	if got := chart.Nearest(at(999, 999), l[:20]...); got != 10 {
		t.Errorf("P6.2: Nearest: %d", got)
	}
	if !slices.Equal(l, spots()) {
		t.Error("R3: Nearest changed what was handed in")
	}
}

// P6.2: left, right, and on the line, before, between and behind the two spots.
func TestSide(t *testing.T) {
	for _, c := range []struct {
		from, to, s chart.Spot
		want        int
	}{
		{at(0, 0), at(1, 0), at(0, 1), 1},
		{at(0, 0), at(1, 0), at(0, -1), -1},
		{at(0, 0), at(1, 0), at(1, 0), 0},
		{at(0, 0), at(1, 0), at(0, 0), 0},
		{at(1, 0), at(0, 0), at(0, 1), -1},
		{at(0, 0), at(0, 1), at(1, 5), -1},
		{at(0, 0), at(0, 1), at(-1, 5), 1},
		{at(1, 1), at(3, 3), at(2, 2), 0},
		{at(1, 1), at(3, 3), at(1000, 1000), 0},
		{at(1, 1), at(3, 3), at(-1000, -1000), 0},
		{at(2, 2), at(2, 2), at(7, 9), 0},
		{at(-1000, -1000), at(1000, 1000), at(999, 1000), 1},
		{at(-1000, -1000), at(1000, 1000), at(1000, 999), -1},
		{at(-1000, -999), at(1000, 1000), at(0, 0), -1},
		{at(1000, -1000), at(-1000, 1000), at(0, 0), 0},
		{at(1000, -1000), at(-1000, 1000), at(0, 1), -1},
	} {
		if got := chart.Side(c.from, c.to, c.s); got != c.want {
			t.Errorf("P6.2: Side(%v, %v, %v): %d; want %d", c.from, c.to, c.s, got, c.want)
		}
	}
	for _, s := range strays() {
		for _, l := range [][3]chart.Spot{{s, at(1, 0), at(0, 1)}, {at(0, 0), s, at(-7, 3)}, {at(0, 0), at(1, -7), s}, {s, s, at(0, 1)}, {s, s, s}} {
			if got := chart.Side(l[0], l[1], l[2]); got != 0 {
				t.Errorf("P6.2: Side(%v): %d, though one isn't on the chart", l, got)
			}
		}
	}
}

// P6.2: of all spots, against whole numbers; the way back has the other side.
func TestSideOfAll(t *testing.T) {
	for _, from := range spots() {
		for _, to := range spots() {
			for _, s := range []chart.Spot{at(0, 0), at(1000, 999), at(-1000, 2), at(31, -1000), from, to} {
				turn := (to.X-from.X)*(s.Y-from.Y) - (to.Y-from.Y)*(s.X-from.X)
				want := min(max(turn, -1), 1)
				if got := chart.Side(from, to, s); got != want {
					t.Fatalf("P6.2: Side(%v, %v, %v): %d; want %d", from, to, s, got, want)
				}
				if got := chart.Side(to, from, s); got != -want {
					t.Fatalf("P6.2: Side(%v, %v, %v): %d; want %d", to, from, s, got, -want)
				}
			}
		}
	}
}

// P6.3: the beginning and the end, written out.
func TestSpiralWritten(t *testing.T) {
	begin := []chart.Spot{
		at(0, 0), at(1, 0), at(1, 1), at(0, 1), at(-1, 1), at(-1, 0), at(-1, -1), at(0, -1), at(1, -1), at(2, -1),
		at(2, 0), at(2, 1), at(2, 2), at(1, 2), at(0, 2), at(-1, 2), at(-2, 2), at(-2, 1),
	}
	for n, want := range begin {
		if got, e := chart.Spiral(n); got != want || e != api.OK {
			t.Errorf("P6.3: Spiral(%d): %v, %d; want %v", n, got, e, want)
		}
	}
	// The spots below 4 times k times k are a square, whose last corner is the spot k less 1 to the left, and k up.
	for _, k := range []int{1, 2, 3, 10, 49, 50} {
		if got, e := chart.Spiral(4*k*k - 1); got != at(1-k, k) || e != api.OK {
			t.Errorf("P6.3: Spiral(%d): %v, %d", 4*k*k-1, got, e)
		}
	}
	if got, e := chart.Spiral(9999); got != at(-49, 50) || e != api.OK {
		t.Errorf("P6.3: Spiral(9999): %v, %d", got, e)
	}
	for _, n := range []int{-1, -2, 10000, 10001, 1 << 32, math.MinInt, math.MaxInt} {
		if got, e := chart.Spiral(n); got != (chart.Spot{}) || e != api.ErrArg {
			t.Errorf("P6.3: Spiral(%d): %v, %d; want ErrArg", n, got, e)
		}
	}
}

// P6.3, P6.4: the whole way, step by step; no spot stands on it twice.
func TestSpiralWhole(t *testing.T) {
	x, y, n := 0, 0, 0
	met := map[chart.Spot]int{}
	step := func() {
		if n > 9999 {
			return
		}
		got, e := chart.Spiral(n)
		if got != at(x, y) || e != api.OK {
			t.Fatalf("P6.3: Spiral(%d): %v, %d; want %d, %d", n, got, e, x, y)
		}
		if before, twice := met[got]; twice {
			t.Fatalf("P6.4: Spiral(%d) and Spiral(%d): %v", before, n, got)
		}
		met[got] = n
		n++
	}
	step()
	for long := 1; n <= 9999; long += 2 {
		for range long {
			x++
			step()
		}
		for range long {
			y++
			step()
		}
		for range long + 1 {
			x--
			step()
		}
		for range long + 1 {
			y--
			step()
		}
	}
	if len(met) != 10000 {
		t.Errorf("P6.4: %d spots of 10000", len(met))
	}
}

// P6.4: four quarters are none, at once, one by one, and there and back.
func TestFourQuarters(t *testing.T) {
	for _, s := range spots() {
		for _, about := range []chart.Spot{at(0, 0), at(1, -1), at(-31, 500), at(1000, 1000), s} {
			for _, n := range []int{4, -4, 400, math.MinInt, math.MaxInt - 3} {
				if got, e := chart.Turn(s, about, n); got != s || e != api.OK {
					t.Fatalf("P6.4: Turn(%v, %v, %d): %v, %d", s, about, n, got, e)
				}
			}
			now, e := s, api.OK
			for range 4 {
				if e == api.OK {
					now, e = chart.Turn(now, about, 1)
				}
			}
			if e == api.OK && now != s || e != api.OK && e != api.ErrOver {
				t.Fatalf("P6.4: %v four times about %v: %v, %d", s, about, now, e)
			}
			for _, q := range quarters {
				there, e := chart.Turn(s, about, q.n)
				if e != api.OK {
					continue
				}
				if back, e := chart.Turn(there, about, 4-q.is); back != s || e != api.OK {
					t.Fatalf("P6.4: %v by %d about %v and back: %v, %d", s, q.n, about, back, e)
				}
			}
		}
	}
}

// P6.4: who turns, or mirrors, two spots leaves them as far apart.
func TestFarIsKept(t *testing.T) {
	kept := 0
	for _, a := range spots() {
		for _, b := range spots() {
			far := chart.Far(a, b)
			left, e := chart.Mirror(a)
			right, f := chart.Mirror(b)
			if e != api.OK || f != api.OK || chart.Far(left, right) != far {
				t.Fatalf("P6.4: %v and %v, mirrored: %v and %v", a, b, left, right)
			}
			for n := -1; n < 3; n++ {
				left, e := chart.Turn(a, at(3, -70), n)
				right, f := chart.Turn(b, at(3, -70), n)
				if e != api.OK || f != api.OK {
					continue
				}
				kept++
				if chart.Far(left, right) != far {
					t.Fatalf("P6.4: %v and %v, turned by %d: %v and %v", a, b, n, left, right)
				}
			}
		}
	}
	if kept < 10000 {
		t.Errorf("P6.4: only %d were on the chart", kept)
	}
}
