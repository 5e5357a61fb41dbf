package path_test

import (
	"math"
	"math/big"
	"math/rand"
	"slices"
	"testing"

	"tollhouse/api"
	"tollhouse/chart"
	"tollhouse/money"
	"tollhouse/path"
	"tollhouse/web"
)

const top = math.MaxUint64

// row are so many spots, in a row, from left to right.
func row(n int) []chart.Spot {
	l := make([]chart.Spot, n)
	for i := range l {
		l[i] = chart.Spot{X: 10 * i}
	}
	return l
}

// edge is a channel over which only its first end can send, without a fee.
func edge(a, b int, can uint64) web.Edge {
	return web.Edge{Ends: [2]int{a, b}, Can: [2]uint64{can, 0}}
}

// asks is such a channel whose first end asks a fee.
func asks(a, b int, can, base, rate uint64) web.Edge {
	e := edge(a, b, can)
	e.Fees[0] = money.Fee{Base: base, Rate: rate}
	return e
}

// flipped is the same channel, told from its other end.
func flipped(e web.Edge) web.Edge {
	slices.Reverse(e.Ends[:])
	slices.Reverse(e.Can[:])
	slices.Reverse(e.Fees[:])
	return e
}

func some(n int, l ...web.Edge) web.Web { return web.Web{Spots: row(n), Edges: l} }

// times is one channel so many times.
func times(n int, e web.Edge) []web.Edge {
	l := make([]web.Edge, n)
	for i := range l {
		l[i] = e
	}
	return l
}

func twin(w web.Web) web.Web {
	return web.Web{Spots: slices.Clone(w.Spots), Edges: slices.Clone(w.Edges)}
}

func sameWeb(a, b web.Web) bool {
	return slices.Equal(a.Spots, b.Spots) && slices.Equal(a.Edges, b.Edges)
}

func same(a, b path.Route) bool {
	return slices.Equal(a.Nodes, b.Nodes) && slices.Equal(a.Edges, b.Edges) && slices.Equal(a.Amounts, b.Amounts)
}

func none(r path.Route) bool { return len(r.Nodes)+len(r.Edges)+len(r.Amounts) == 0 }

func route(nodes, edges []int, amounts ...uint64) path.Route {
	return path.Route{Nodes: nodes, Edges: edges, Amounts: amounts}
}

// wantAll holds what All answers against written-out routes.
func wantAll(t *testing.T, name string, w web.Web, from, to int, amount uint64, want ...path.Route) {
	t.Helper()
	got, e := path.All(w, from, to, amount)
	if e != api.OK || !slices.EqualFunc(got, want, same) {
		t.Errorf("P8.1: %s: %v, %d; want %v", name, got, e, want)
	}
}

// wantBest holds what Best answers against a route; none: ErrRoute is wanted.
func wantBest(t *testing.T, name string, w web.Web, from, to int, amount uint64, want path.Route) {
	t.Helper()
	got, e := path.Best(w, from, to, amount)
	if e != noneAs(want) || !same(got, want) {
		t.Errorf("P8.1: %s: the best: %v, %d; want %v", name, got, e, want)
	}
}

// wantGreedy does so with Greedy.
func wantGreedy(t *testing.T, name string, w web.Web, from, to int, amount uint64, want path.Route) {
	t.Helper()
	got, e := path.Greedy(w, from, to, amount)
	if e != noneAs(want) || !same(got, want) {
		t.Errorf("P8.2: %s: %v, %d; want %v", name, got, e, want)
	}
}

func noneAs(r path.Route) api.Errno {
	if none(r) {
		return api.ErrRoute
	}
	return api.OK
}

// The chapter's example.
func TestTwoInARow(t *testing.T) {
	w := some(3, edge(0, 1, 9), asks(1, 2, 9, 1, 0))
	want := route([]int{0, 1, 2}, []int{0, 1}, 6, 5)
	wantAll(t, "two in a row", w, 0, 2, 5, want)
	wantBest(t, "two in a row", w, 0, 2, 5, want)
	wantGreedy(t, "two in a row", w, 0, 2, 5, want)
	if want.Long() != 2 || want.Fees() != 1 {
		t.Errorf("P8.3: %d, %d", want.Long(), want.Fees())
	}
}

// P8.1: the order is by the channel at which two routes part, not by nodes, nor by how long they are.
func TestOrder(t *testing.T) {
	w := some(4,
		edge(0, 2, 9), edge(1, 3, 9), edge(0, 1, 9), edge(2, 1, 9), edge(0, 3, 9), edge(2, 3, 9))
	wantAll(t, "six channels", w, 0, 3, 5,
		route([]int{0, 2, 1, 3}, []int{0, 3, 1}, 5, 5, 5),
		route([]int{0, 2, 3}, []int{0, 5}, 5, 5),
		route([]int{0, 1, 3}, []int{2, 1}, 5, 5),
		route([]int{0, 3}, []int{4}, 5))
	back := twin(w)
	slices.Reverse(back.Edges)
	wantAll(t, "told from the last one on", back, 0, 3, 5,
		route([]int{0, 3}, []int{1}, 5),
		route([]int{0, 1, 3}, []int{3, 4}, 5, 5),
		route([]int{0, 2, 3}, []int{5, 0}, 5, 5),
		route([]int{0, 2, 1, 3}, []int{5, 2, 4}, 5, 5, 5))
}

// P8.1: over each of two channels between the same two nodes a route goes, whichever end is the first one.
func TestTwoBetweenTheSame(t *testing.T) {
	w := some(3, edge(0, 1, 9), flipped(asks(1, 2, 9, 2, 0)), flipped(edge(0, 1, 8)), asks(1, 2, 9, 1, 0))
	wantAll(t, "two and two", w, 0, 2, 7,
		route([]int{0, 1, 2}, []int{0, 1}, 9, 7),
		route([]int{0, 1, 2}, []int{0, 3}, 8, 7),
		route([]int{0, 1, 2}, []int{2, 3}, 8, 7))
	wantBest(t, "two and two", w, 0, 2, 7, route([]int{0, 1, 2}, []int{0, 3}, 8, 7))
	wantBest(t, "one and two, then none", w, 0, 2, 8, route([]int{0, 1, 2}, []int{0, 3}, 9, 8))
	wantAll(t, "too much for all", w, 0, 2, 9)
	wantBest(t, "too much for all", w, 0, 2, 9, path.Route{})
}

// P8.1: the fee is that of the node between, for what it sends; who sets out and who is paid ask nothing.
func TestAmounts(t *testing.T) {
	l := []web.Edge{asks(0, 1, top, 1000, 1000000), asks(1, 2, 1000, 3, 20000), asks(2, 3, 1000, 1, 10000)}
	for i := range l {
		l[i].Fees[1] = money.Fee{Base: 70, Rate: 70000}
	}
	want := route([]int{0, 1, 2, 3}, []int{0, 1, 2}, 519, 506, 500)
	wantAll(t, "three channels", some(4, l...), 0, 3, 500, want)
	if want.Fees() != 19 || want.Long() != 3 {
		t.Errorf("P8.3: %d, %d", want.Fees(), want.Long())
	}
	for i := range l {
		l[i] = flipped(l[i])
	}
	wantAll(t, "told from their other ends", some(4, l...), 0, 3, 500, want)
	for i := range l {
		l[i].Can = [2]uint64{1000, 1000}
	}
	wantAll(t, "the other way", some(4, l...), 3, 0, 500, route([]int{3, 2, 1, 0}, []int{2, 1, 0}, 717, 605, 500))
}

// P8.1: an end that can send just its amount, and one less, at each channel of a route.
func TestJustEnough(t *testing.T) {
	need := []uint64{519, 506, 500}
	for i := range need {
		w := some(4, edge(0, 1, 519), asks(1, 2, 506, 3, 20000), asks(2, 3, 500, 1, 10000))
		want := route([]int{0, 1, 2, 3}, []int{0, 1, 2}, need...)
		wantAll(t, "just enough", w, 0, 3, 500, want)
		wantBest(t, "just enough", w, 0, 3, 500, want)
		wantGreedy(t, "just enough", w, 0, 3, 500, want)
		// What the other end can send is no help.
		w.Edges[i].Can = [2]uint64{need[i] - 1, 1000}
		wantAll(t, "one less", w, 0, 3, 500)
		wantBest(t, "one less", w, 0, 3, 500, path.Route{})
		wantGreedy(t, "one less", w, 0, 3, 500, path.Route{})
	}
}

// P8.1: a chain goes over 7 channels; one more would take a web that may not be.
func TestSeven(t *testing.T) {
	var l []web.Edge
	for i := range 8 {
		l = append(l, asks(i, i+1, 100, 1, 0))
	}
	want := route([]int{0, 1, 2, 3, 4, 5, 6, 7}, []int{0, 1, 2, 3, 4, 5, 6}, 11, 10, 9, 8, 7, 6, 5)
	wantAll(t, "7 channels", some(8, l[:7]...), 0, 7, 5, want)
	wantBest(t, "7 channels", some(8, l[:7]...), 0, 7, 5, want)
	wantGreedy(t, "7 channels", some(8, l[:7]...), 0, 7, 5, want)
	wantAll(t, "a part of them", some(8, l[:7]...), 2, 5, 5, route([]int{2, 3, 4, 5}, []int{2, 3, 4}, 7, 6, 5))
	if r, e := path.All(some(9, l...), 0, 8, 5); e != api.ErrLimit || len(r) != 0 {
		t.Errorf("P8.1: 8 channels: %v, %d", r, e)
	}
	if r, e := path.Best(some(9, l...), 0, 8, 5); e != api.ErrLimit || !none(r) {
		t.Errorf("P8.1: 8 channels: %v, %d", r, e)
	}
	if r, e := path.Greedy(some(9, l...), 0, 8, 5); e != api.ErrLimit || !none(r) {
		t.Errorf("P8.2: 8 channels: %v, %d", r, e)
	}
}

// P8.1: no node stands in a route twice, and none goes on behind its end.
func TestNoneTwice(t *testing.T) {
	both := [2]uint64{9, 9}
	w := some(4, web.Edge{Ends: [2]int{0, 1}, Can: both}, web.Edge{Ends: [2]int{1, 2}, Can: both},
		web.Edge{Ends: [2]int{2, 0}, Can: both}, web.Edge{Ends: [2]int{2, 3}, Can: both}, web.Edge{Ends: [2]int{3, 1}, Can: both})
	wantAll(t, "rings", w, 0, 2, 1,
		route([]int{0, 1, 2}, []int{0, 1}, 1, 1),
		route([]int{0, 1, 3, 2}, []int{0, 4, 3}, 1, 1, 1),
		route([]int{0, 2}, []int{2}, 1))
	wantBest(t, "rings", w, 0, 2, 1, route([]int{0, 2}, []int{2}, 1))
}

// P8.1: the first 32, and the best one of these alone.
func TestMaxPaths(t *testing.T) {
	for _, c := range []struct{ first, second, direct, want int }{
		{5, 6, 1, 31}, {4, 8, 0, 32}, {4, 7, 4, 32}, {4, 8, 1, 32}, {3, 11, 0, 32}, {8, 8, 0, 32}, {1, 1, 14, 15},
	} {
		l := slices.Concat(times(c.first, edge(0, 1, 9)), times(c.second, edge(1, 2, 9)), times(c.direct, edge(0, 2, 9)))
		got, e := path.All(some(3, l...), 0, 2, 5)
		if e != api.OK || len(got) != c.want {
			t.Errorf("P8.1: %v: %d routes, %d", c, len(got), e)
		}
		for i, r := range got {
			two := []int{i / c.second, c.first + i%c.second}
			one := []int{c.first + c.second + i - c.first*c.second}
			if i < c.first*c.second && !slices.Equal(r.Edges, two) || i >= c.first*c.second && !slices.Equal(r.Edges, one) {
				t.Errorf("P8.1: %v: the route %d: %v", c, i, r)
			}
		}
	}
	// 5 by 6 routes ask 1, and so does each one by the node 3; the channel that leads there at once is the last one.
	five := slices.Concat(times(5, edge(0, 1, 9)), times(6, asks(1, 2, 9, 1, 0)))
	l := slices.Concat(five, []web.Edge{asks(3, 2, 9, 1, 0), edge(0, 3, 9), edge(0, 2, 9)})
	wantBest(t, "the 32nd", some(4, l...), 0, 2, 5, route([]int{0, 2}, []int{13}, 5))
	l = slices.Concat(five, []web.Edge{asks(3, 2, 9, 1, 0), edge(0, 3, 9), edge(0, 3, 9), edge(0, 2, 9)})
	wantBest(t, "the 33rd", some(4, l...), 0, 2, 5, route([]int{0, 1, 2}, []int{0, 5}, 6, 5))
	l[12].Can[0] = 5
	wantBest(t, "the 33rd, but one ahead of it can't send", some(4, l...), 0, 2, 5, route([]int{0, 2}, []int{14}, 5))
}

// P8.1: least by the first amount, then by channels, then by the order.
func TestBest(t *testing.T) {
	cheap := some(4, asks(0, 3, 9, 8, 0), edge(0, 1, 9), asks(1, 3, 9, 2, 0), edge(0, 2, 9), asks(2, 3, 9, 1, 0))
	wantBest(t, "who sets out asks nothing", cheap, 0, 3, 5, route([]int{0, 3}, []int{0}, 5))
	cheap.Edges[0].Can[0] = 4
	wantBest(t, "the last one asks less", cheap, 0, 3, 5, route([]int{0, 2, 3}, []int{3, 4}, 6, 5))

	long := some(4, edge(0, 1, 9), edge(1, 2, 9), asks(2, 3, 9, 1, 0), asks(1, 3, 9, 2, 0))
	wantBest(t, "three channels that ask less than two", long, 0, 3, 5, route([]int{0, 1, 2, 3}, []int{0, 1, 2}, 6, 6, 5))
	long.Edges[3].Fees[0].Base = 1
	wantBest(t, "three and two that ask as much", long, 0, 3, 5, route([]int{0, 1, 3}, []int{0, 3}, 6, 5))

	alike := some(4, edge(0, 2, 9), edge(0, 1, 9), asks(1, 3, 9, 1, 0), asks(2, 3, 9, 1, 0))
	wantBest(t, "two and two that ask as much", alike, 0, 3, 5, route([]int{0, 2, 3}, []int{0, 3}, 6, 5))
	wantBest(t, "two alike", some(2, edge(0, 1, 4), edge(0, 1, 9), edge(0, 1, 9)), 0, 1, 5, route([]int{0, 1}, []int{1}, 5))
}

// P8.1, P8.2: amounts up to the greatest number, and not beyond it.
func TestGreatest(t *testing.T) {
	wantBest(t, "all of it", some(2, edge(0, 1, top)), 0, 1, top, route([]int{0, 1}, []int{0}, top))
	wantGreedy(t, "all of it", some(2, edge(0, 1, top)), 0, 1, top, route([]int{0, 1}, []int{0}, top))
	w := some(3, edge(0, 1, top), asks(1, 2, top, 1, 0))
	want := route([]int{0, 1, 2}, []int{0, 1}, top, top-1)
	wantAll(t, "one less, and one", w, 0, 2, top-1, want)
	wantGreedy(t, "one less, and one", w, 0, 2, top-1, want)
	for name, fee := range map[string]money.Fee{
		"a base of 1":                 {Base: 1},
		"the greatest base":           {Base: top},
		"all once more":               {Rate: api.Scale},
		"the greatest rate":           {Rate: top},
		"the greatest base and rate":  {Base: top, Rate: top},
		"one of a thousand thousands": {Rate: 1},
	} {
		over := some(4, edge(0, 1, top), asks(1, 2, top, 0, 0), edge(0, 3, top), edge(3, 2, top))
		over.Edges[1].Fees[0] = fee
		over.Spots[3] = chart.Spot{X: -10}
		wantAll(t, name, over, 0, 2, top, route([]int{0, 3, 2}, []int{2, 3}, top, top))
		wantGreedy(t, name, over, 0, 2, top, path.Route{})
		over.Edges = over.Edges[:2]
		wantAll(t, name+", alone", over, 0, 2, top)
		wantBest(t, name+", alone", over, 0, 2, top, path.Route{})
	}
	// It goes beyond only at the second fee from the end.
	w = some(4, edge(0, 1, top), asks(1, 2, top, 1, 0), asks(2, 3, top, 1, 0))
	wantAll(t, "two less", w, 0, 3, top-2, route([]int{0, 1, 2, 3}, []int{0, 1, 2}, top, top-1, top-2))
	wantAll(t, "one less, and two fees", w, 0, 3, top-1)
	wantGreedy(t, "one less, and two fees", w, 0, 3, top-1, path.Route{})
}

// P8.1, P8.2: no route isn't an error of All, and ErrRoute of the others.
func TestNoRoute(t *testing.T) {
	for name, w := range map[string]web.Web{
		"no channels":           some(3),
		"none leads there":      some(3, edge(0, 1, 9)),
		"none leads away":       some(3, edge(1, 2, 9)),
		"only the other way":    some(3, edge(2, 0, 9), edge(1, 0, 9), edge(2, 1, 9)),
		"nothing can be sent":   some(3, edge(0, 2, 0), edge(0, 1, 0), edge(1, 2, 0)),
		"too little everywhere": some(3, edge(0, 2, 4), edge(0, 1, 5), edge(1, 2, 4)),
	} {
		wantAll(t, name, w, 0, 2, 5)
		wantBest(t, name, w, 0, 2, 5, path.Route{})
		wantGreedy(t, name, w, 0, 2, 5, path.Route{})
	}
}

// wrong are questions that may not be asked, and why not: the web's errors ahead of the arguments'.
func wrong() []struct {
	name     string
	w        web.Web
	from, to int
	amount   uint64
	e        api.Errno
} {
	w := some(3, edge(0, 1, 9), edge(1, 2, 9))
	return []struct {
		name     string
		w        web.Web
		from, to int
		amount   uint64
		e        api.Errno
	}{
		{"9 nodes", some(9, edge(0, 1, 9)), 0, 1, 5, api.ErrLimit},
		{"17 channels", some(2, times(17, edge(0, 1, 9))...), 0, 1, 5, api.ErrLimit},
		{"an end that is no node", some(2, edge(0, 1, 9), edge(1, 2, 9)), 0, 1, 5, api.ErrArg},
		{"both ends one", some(2, edge(0, 1, 9), edge(1, 1, 9)), 0, 1, 5, api.ErrArg},
		{"9 nodes, from no node", some(9, edge(0, 1, 9)), -1, 1, 5, api.ErrLimit},
		{"9 nodes, to no node", some(9, edge(0, 1, 9)), 0, 9, 5, api.ErrLimit},
		{"9 nodes, from and to one", some(9, edge(0, 1, 9)), 1, 1, 5, api.ErrLimit},
		{"17 channels, the amount 0", some(2, times(17, edge(0, 1, 9))...), 0, 1, 0, api.ErrLimit},
		{"the zero web", web.Web{}, 0, 0, 5, api.ErrArg},
		{"one node", some(1), 0, 0, 5, api.ErrArg},
		{"from below 0", w, -1, 2, 5, api.ErrArg},
		{"from one too great", w, 3, 2, 5, api.ErrArg},
		{"from the least number", w, math.MinInt, 2, 5, api.ErrArg},
		{"from the greatest number", w, math.MaxInt, 2, 5, api.ErrArg},
		{"to below 0", w, 0, -1, 5, api.ErrArg},
		{"to one too great", w, 0, 3, 5, api.ErrArg},
		{"to the least number", w, 0, math.MinInt, 5, api.ErrArg},
		{"to the greatest number", w, 0, math.MaxInt, 5, api.ErrArg},
		{"from and to one", w, 1, 1, 5, api.ErrArg},
		{"from and to one that is no node", w, 7, 7, 5, api.ErrArg},
		{"the amount 0", w, 0, 2, 0, api.ErrArg},
		{"the amount 0, and no route", w, 2, 0, 0, api.ErrArg},
		{"from and to one, the amount 0", w, 0, 0, 0, api.ErrArg},
	}
}

func TestWrong(t *testing.T) {
	for _, c := range wrong() {
		if l, e := path.All(c.w, c.from, c.to, c.amount); e != c.e || len(l) != 0 {
			t.Errorf("P8.1: %s: all: %v, %d; want %d", c.name, l, e, c.e)
		}
		if r, e := path.Best(c.w, c.from, c.to, c.amount); e != c.e || !none(r) {
			t.Errorf("P8.1: %s: the best: %v, %d; want %d", c.name, r, e, c.e)
		}
		if r, e := path.Greedy(c.w, c.from, c.to, c.amount); e != c.e || !none(r) {
			t.Errorf("P8.2: %s: greedy: %v, %d; want %d", c.name, r, e, c.e)
		}
	}
}

// at is a web of such spots.
func at(spots []chart.Spot, l ...web.Edge) web.Web { return web.Web{Spots: spots, Edges: l} }

// P8.2: who is nearest to the goal is next, whatever it asks, and whether or not it leads on.
func TestGreedy(t *testing.T) {
	three := []chart.Spot{{X: 0}, {X: 5, Y: 5}, {X: 10}}
	short := at(three, edge(0, 1, 9), edge(1, 2, 9), edge(0, 2, 9))
	wantGreedy(t, "the goal itself is nearest", short, 0, 2, 5, route([]int{0, 2}, []int{2}, 5))
	short.Edges[2].Can[0] = 4
	wantGreedy(t, "the goal's channel can't send it", short, 0, 2, 5, route([]int{0, 1, 2}, []int{0, 1}, 5, 5))
	short.Edges[1].Can[0] = 4
	wantGreedy(t, "nor can the second one", short, 0, 2, 5, path.Route{})

	four := []chart.Spot{{X: 0}, {X: 8}, {X: 5}, {X: 10}}
	lured := at(four, edge(0, 2, 9), edge(2, 3, 9), edge(0, 1, 9))
	wantGreedy(t, "the nearest one leads nowhere", lured, 0, 3, 5, path.Route{})
	wantBest(t, "but there is a route", lured, 0, 3, 5, route([]int{0, 2, 3}, []int{0, 1}, 5, 5))
	lured.Edges = append(lured.Edges, asks(1, 3, 9, 4, 0))
	wantGreedy(t, "the nearest one asks more", lured, 0, 3, 5, route([]int{0, 1, 3}, []int{2, 3}, 9, 5))

	over := at(three, edge(0, 1, 4), flipped(edge(0, 1, 9)), edge(0, 1, 12), edge(1, 2, 4), asks(1, 2, 9, 1, 0), edge(1, 2, 9))
	wantGreedy(t, "the first channels that can send it", over, 0, 2, 5, route([]int{0, 1, 2}, []int{1, 4}, 6, 5))
	over.Edges[4].Fees[0].Base = 5
	wantGreedy(t, "that one can't send what the fee adds, another one could", over, 0, 2, 5, path.Route{})
	wantBest(t, "the best one goes by other channels", over, 0, 2, 5, route([]int{0, 1, 2}, []int{1, 5}, 5, 5))
}

// P8.2: spots that are equally far.
func TestGreedyAlike(t *testing.T) {
	square := []chart.Spot{{X: 0}, {X: 5, Y: 5}, {X: 5, Y: -5}, {X: 10}}
	w := at(square, edge(0, 2, 9), edge(0, 1, 9), edge(1, 3, 9), edge(2, 3, 9))
	wantGreedy(t, "of two the one over the first channel", w, 0, 3, 5, route([]int{0, 2, 3}, []int{0, 3}, 5, 5))
	w.Edges[0], w.Edges[1] = w.Edges[1], w.Edges[0]
	wantGreedy(t, "the other way round", w, 0, 3, 5, route([]int{0, 1, 3}, []int{0, 2}, 5, 5))

	shared := at([]chart.Spot{{X: 0}, {X: 10}, {X: 10}}, edge(0, 1, 9), edge(0, 2, 9), edge(1, 2, 9))
	wantGreedy(t, "somebody else at the goal's spot", shared, 0, 2, 5, path.Route{})
	wantGreedy(t, "that one is the goal", shared, 0, 1, 5, route([]int{0, 1}, []int{0}, 5))
	wantGreedy(t, "from the goal's spot", shared, 1, 2, 5, path.Route{})
	wantBest(t, "that is no matter to the best", shared, 1, 2, 5, route([]int{1, 2}, []int{2}, 5))

	ring := at([]chart.Spot{{X: 3, Y: 4}, {X: 5}, {}}, edge(0, 1, 9), edge(1, 2, 9))
	wantGreedy(t, "the next one is as far", ring, 0, 2, 5, path.Route{})
	ring.Spots[1] = chart.Spot{X: 4, Y: 4}
	wantGreedy(t, "the next one is farther", ring, 0, 2, 5, path.Route{})
	ring.Spots[1] = chart.Spot{X: -4, Y: -2}
	wantGreedy(t, "the next one is less far", ring, 0, 2, 5, route([]int{0, 1, 2}, []int{0, 1}, 5, 5))

	turn := at([]chart.Spot{{X: 6}, {X: 4}, {X: 5}, {}}, edge(0, 1, 9), edge(1, 2, 9), edge(2, 3, 9))
	wantGreedy(t, "the way goes back once", turn, 0, 3, 5, path.Route{})
	wantBest(t, "the way goes back once", turn, 0, 3, 5, route([]int{0, 1, 2, 3}, []int{0, 1, 2}, 5, 5, 5))
}

// P8.2: spots that aren't on the chart are -1 far.
func TestGreedyOffTheChart(t *testing.T) {
	spots := []chart.Spot{{X: 0}, {X: 500}, {X: 1000}}
	l := []web.Edge{edge(0, 1, 9), edge(1, 2, 9), edge(0, 2, 4)}
	wantGreedy(t, "all on the chart", at(spots, l...), 0, 2, 5, route([]int{0, 1, 2}, []int{0, 1}, 5, 5))
	for i, name := range []string{"who sets out", "who is between", "the goal"} {
		for _, out := range []chart.Spot{{X: 1001}, {Y: -1001}, {X: math.MinInt, Y: math.MaxInt}} {
			w := twin(at(spots, l...))
			w.Spots[i] = out
			wantGreedy(t, name+" isn't on it", w, 0, 2, 5, path.Route{})
			wantBest(t, name+" isn't on it", w, 0, 2, 5, route([]int{0, 1, 2}, []int{0, 1}, 5, 5))
		}
	}
	out := chart.Spot{X: 2000}
	wantGreedy(t, "from off the chart to the goal itself", at([]chart.Spot{out, {}}, edge(0, 1, 9)), 0, 1, 5, path.Route{})
	wantGreedy(t, "both off the chart", at([]chart.Spot{out, out}, edge(0, 1, 9)), 0, 1, 5, path.Route{})
	by := at([]chart.Spot{{X: 0}, out, {X: 5}, {X: 10}}, edge(0, 1, 9), edge(1, 3, 9), edge(0, 2, 9), edge(2, 3, 9))
	wantGreedy(t, "one beside the way", by, 0, 3, 5, route([]int{0, 2, 3}, []int{2, 3}, 5, 5))
}

// P8.2: the fees are added behind the way being chosen, so that its first channels may not be able to send it.
func TestGreedyFees(t *testing.T) {
	w := some(4, edge(0, 1, 7), asks(1, 2, 6, 1, 0), asks(2, 3, 5, 1, 0))
	wantGreedy(t, "just", w, 0, 3, 5, route([]int{0, 1, 2, 3}, []int{0, 1, 2}, 7, 6, 5))
	for i, can := range []uint64{5, 5} {
		less := twin(w)
		less.Edges[i].Can[0] = can
		less.Edges = append(less.Edges, edge(0, 1, 100), asks(1, 2, 100, 1, 0))
		wantGreedy(t, "the channel can send the amount, but not its fees", less, 0, 3, 5, path.Route{})
	}
}

// P8.3: of any routes, found or not.
func TestLongAndFees(t *testing.T) {
	for _, c := range []struct {
		r    path.Route
		long int
		fees uint64
	}{
		{path.Route{}, 0, 0},
		{route(nil, nil), 0, 0},
		{route([]int{3}, []int{}), 0, 0},
		{route([]int{0, 1}, []int{0}, 5), 1, 0},
		{route([]int{0, 1, 2}, []int{0, 1}, 6, 5), 2, 1},
		{route([]int{0, 1, 2, 3}, []int{0, 1, 2}, 519, 506, 500), 3, 19},
		{route([]int{0, 1, 2, 3}, []int{0, 1, 2}, 9, 99, 7), 3, 2},
		{route([]int{0, 1, 2}, []int{0, 1}, top, 0), 2, top},
		{route([]int{0, 1, 2}, []int{0, 1}, 0, top), 2, 0},
		{route(nil, []int{4, 4, 4}), 3, 0},
		{route(nil, nil, 8, 3), 0, 5},
	} {
		if c.r.Long() != c.long || c.r.Fees() != c.fees {
			t.Errorf("P8.3: %v: %d, %d; want %d, %d", c.r, c.r.Long(), c.r.Fees(), c.long, c.fees)
		}
	}
}

// P8.3: each channel's amount by its first node, whichever end that is.
func TestGo(t *testing.T) {
	w := some(3, edge(0, 1, 9), flipped(asks(1, 2, 9, 1, 0)), edge(2, 0, 3))
	r := route([]int{0, 1, 2}, []int{0, 1}, 6, 5)
	got, e := r.Go(w)
	want := twin(w)
	want.Edges[0].Can, want.Edges[1].Can = [2]uint64{3, 6}, [2]uint64{5, 4}
	if e != api.OK || !sameWeb(got, want) {
		t.Errorf("P8.3: %v, %d; want %v", got, e, want)
	}
	back, e := route([]int{2, 1, 0}, []int{1, 0}, 5, 6).Go(got)
	if e != api.OK || !sameWeb(back, w) {
		t.Errorf("P8.3: and back: %v, %d; want %v", back, e, w)
	}
	// The second time it goes by what came the first time.
	there, e := route([]int{0, 1, 0, 1}, []int{0, 0, 0}, 9, 4, 4).Go(w)
	if e != api.OK || there.Edges[0].Can != [2]uint64{0, 9} {
		t.Errorf("P8.3: there, back and there: %v, %d", there, e)
	}
	still, e := route([]int{7}, nil).Go(w)
	if e != api.OK || !sameWeb(still, w) {
		t.Errorf("P8.3: over no channel: %v, %d", still, e)
	}
	zero, e := route([]int{0, 1}, []int{0}, 0).Go(w)
	if e != api.OK || !sameWeb(zero, w) {
		t.Errorf("P8.3: nothing over a channel: %v, %d", zero, e)
	}
}

// P8.3: routes that don't fit, then webs that may not be, then the first Sent that has an error.
func TestGoWrong(t *testing.T) {
	w := some(3, edge(0, 1, 9), edge(1, 2, 9))
	bad := some(3, edge(0, 1, 9), edge(2, 2, 9))
	full := some(3, web.Edge{Ends: [2]int{0, 1}, Can: [2]uint64{9, top - 5}}, edge(1, 2, 9))
	good := route([]int{0, 1, 2}, []int{0, 1}, 6, 5)
	for _, c := range []struct {
		name string
		r    path.Route
		w    web.Web
		e    api.Errno
	}{
		{"the zero route", path.Route{}, w, api.ErrArg},
		{"the zero route, 9 nodes", path.Route{}, some(9), api.ErrArg},
		{"a node too few", route([]int{0, 1}, []int{0, 1}, 6, 5), w, api.ErrArg},
		{"a node too many", route([]int{0, 1, 2, 0}, []int{0, 1}, 6, 5), w, api.ErrArg},
		{"an amount too few", route([]int{0, 1, 2}, []int{0, 1}, 6), w, api.ErrArg},
		{"an amount too many", route([]int{0, 1, 2}, []int{0, 1}, 6, 5, 4), w, api.ErrArg},
		{"a channel too few", route([]int{0, 1, 2}, []int{0}, 6, 5), w, api.ErrArg},
		{"a channel too many", route([]int{0, 1, 2}, []int{0, 1, 1}, 6, 5), w, api.ErrArg},
		{"no channel, an amount", route([]int{0}, nil, 6), w, api.ErrArg},
		{"a node too few, 9 nodes", route([]int{0, 1}, []int{0, 1}, 6, 5), some(9), api.ErrArg},
		{"9 nodes", good, some(9, edge(0, 1, 9), edge(1, 2, 9)), api.ErrLimit},
		{"17 channels", good, some(3, times(17, edge(0, 1, 9))...), api.ErrLimit},
		{"a channel that may not be", good, bad, api.ErrArg},
		{"over no channel, 9 nodes", route([]int{0}, nil), some(9), api.ErrLimit},
		{"over no channel, one that may not be", route([]int{0}, nil), bad, api.ErrArg},
		{"no such channel", route([]int{0, 1}, []int{2}, 5), w, api.ErrArg},
		{"a channel below 0", route([]int{0, 1}, []int{-1}, 5), w, api.ErrArg},
		{"the node isn't an end", route([]int{2, 1}, []int{0}, 5), w, api.ErrArg},
		{"the second node isn't an end", route([]int{0, 2, 1}, []int{0, 0}, 5, 5), w, api.ErrArg},
		{"the first channel can't send", route([]int{0, 1, 2}, []int{0, 1}, 10, 5), w, api.ErrRoom},
		{"the second channel can't send", route([]int{0, 1, 2}, []int{0, 1}, 9, 10), w, api.ErrRoom},
		{"the second time it can't send", route([]int{0, 1, 0, 1}, []int{0, 0, 0}, 5, 4, 9), w, api.ErrRoom},
		{"the other end would have too much", route([]int{0, 1, 2}, []int{0, 1}, 6, 5), full, api.ErrOver},
		{"room first, then no channel", route([]int{0, 1, 2}, []int{0, 9}, 10, 5), w, api.ErrRoom},
		{"no channel first, then room", route([]int{0, 1, 2}, []int{9, 1}, 5, 10), w, api.ErrArg},
	} {
		before := twin(c.w)
		if got, e := c.r.Go(c.w); e != c.e || len(got.Spots)+len(got.Edges) != 0 {
			t.Errorf("P8.3: %s: %v, %d; want %d", c.name, got, e, c.e)
		}
		if !sameWeb(c.w, before) {
			t.Errorf("P8.3: %s: the web turned", c.name)
		}
	}
	if got, e := route([]int{0, 1, 2}, []int{0, 1}, 5, 5).Go(full); e != api.OK || got.Edges[0].Can != [2]uint64{4, top} {
		t.Errorf("P8.3: just as much as the other end may have: %v, %d", got, e)
	}
}

// roomy is a web whose lists have room behind their ends, filled with something.
func roomy(w web.Web) web.Web {
	spots := append(slices.Clone(w.Spots), chart.Spot{X: 77}, chart.Spot{Y: 77})
	edges := append(slices.Clone(w.Edges), edge(7, 7, 77), edge(6, 6, 66))
	return web.Web{Spots: spots[:len(w.Spots)], Edges: edges[:len(w.Edges)]}
}

// whole is a web with all the room of its lists.
func whole(w web.Web) web.Web {
	return web.Web{Spots: w.Spots[:cap(w.Spots)], Edges: w.Edges[:cap(w.Edges)]}
}

// R3: the web that is handed in isn't turned, nor kept; what is handed out is new memory.
func TestNewMemory(t *testing.T) {
	w := roomy(some(4, edge(0, 1, 9), edge(1, 3, 9), edge(0, 2, 9), edge(2, 3, 9), edge(1, 2, 9)))
	before := twin(whole(w))
	first, _ := path.All(w, 0, 3, 5)
	best, _ := path.Best(w, 0, 3, 5)
	greedy, _ := path.Greedy(w, 0, 3, 5)
	paid, e := best.Go(w)
	still, e2 := route([]int{0}, nil).Go(w)
	if e != api.OK || e2 != api.OK || !sameWeb(whole(w), before) {
		t.Fatalf("R3: the web turned: %v; %v", whole(w), before)
	}
	for _, x := range []web.Web{paid, still} {
		full := whole(x)
		for i := range full.Spots {
			full.Spots[i] = chart.Spot{X: 55}
		}
		for i := range full.Edges {
			full.Edges[i] = edge(5, 5, 55)
		}
	}
	second, _ := path.All(w, 0, 3, 5)
	for i, r := range first {
		for _, l := range [][]int{r.Nodes[:cap(r.Nodes)], r.Edges[:cap(r.Edges)]} {
			for k := range l {
				l[k] = -9
			}
		}
		for k := range r.Amounts[:cap(r.Amounts)] {
			r.Amounts[:cap(r.Amounts)][k] = 99
		}
		for k := i + 1; k < len(first); k++ {
			if !same(first[k], second[k]) {
				t.Errorf("R3: the routes %d and %d share memory", i, k)
			}
		}
	}
	if again, _ := path.All(w, 0, 3, 5); !slices.EqualFunc(again, second, same) || len(again) != 3 {
		t.Errorf("R5: %v; before %v", again, second)
	}
	if !sameWeb(whole(w), before) {
		t.Error("R3: an answer shares the web's memory")
	}
	if want := route([]int{0, 1, 3}, []int{0, 1}, 5, 5); !same(best, want) {
		t.Errorf("R3: the best: %v; want %v", best, want)
	}
	if want := route([]int{0, 2, 3}, []int{2, 3}, 5, 5); !same(greedy, want) {
		t.Errorf("R3: greedy: %v; want %v", greedy, want)
	}
}

// R3: Go leaves its route as it is, too.
func TestGoLeavesTheRoute(t *testing.T) {
	r := route([]int{0, 1, 2}, []int{0, 1}, 6, 5)
	if _, e := r.Go(some(3, edge(0, 1, 9), edge(1, 2, 9))); e != api.OK || !same(r, route([]int{0, 1, 2}, []int{0, 1}, 6, 5)) {
		t.Errorf("R3: %v, %d", r, e)
	}
}

// drawn is a web by chance, always by the same one.
func drawn(r *rand.Rand) web.Web {
	n := 2 + r.Intn(7)
	w := web.Web{Spots: make([]chart.Spot, n)}
	for i := range w.Spots {
		w.Spots[i] = chart.Spot{X: r.Intn(9), Y: r.Intn(9)}
		if r.Intn(12) == 0 {
			w.Spots[i].X = 1001
		}
	}
	great := r.Intn(5) == 0
	for range r.Intn(17) {
		a := r.Intn(n)
		e := web.Edge{Ends: [2]int{a, (a + 1 + r.Intn(n-1)) % n}}
		for side := range 2 {
			e.Can[side] = uint64(r.Intn(30))
			e.Fees[side] = money.Fee{Base: uint64(r.Intn(3)), Rate: uint64(r.Intn(200000))}
			if great {
				// Half of the greatest number at most, so that both ends' come to no more than it.
				e.Can[side] = r.Uint64() >> (1 + r.Intn(3))
				e.Fees[side].Rate = uint64(r.Intn(3000000))
			}
		}
		w.Edges = append(w.Edges, e)
	}
	return w
}

// asked is an amount that some channels of a web can send, and others can't.
func asked(r *rand.Rand, w web.Web) uint64 {
	if len(w.Edges) == 0 {
		return 1
	}
	can := w.Edges[r.Intn(len(w.Edges))].Can[r.Intn(2)]
	return can/uint64(1+r.Intn(4)) + 1
}

// priced is the book's route over some channels from a node, reckoned with numbers without end; false: it isn't there.
func priced(w web.Web, from int, edges []int, amount uint64) (path.Route, bool) {
	nodes, sides := []int{from}, []int{}
	for _, i := range edges {
		side := slices.Index(w.Edges[i].Ends[:], nodes[len(nodes)-1])
		nodes, sides = append(nodes, w.Edges[i].Ends[1-side]), append(sides, side)
	}
	amounts := make([]uint64, len(edges))
	goes := new(big.Int).SetUint64(amount)
	for k := len(edges) - 1; k >= 0; k-- {
		e, side := w.Edges[edges[k]], sides[k]
		if !goes.IsUint64() || goes.Uint64() > e.Can[side] {
			return path.Route{}, false
		}
		amounts[k] = goes.Uint64()
		rate := new(big.Int).Mul(goes, new(big.Int).SetUint64(e.Fees[side].Rate))
		rate.Div(rate, big.NewInt(1000000))
		goes = new(big.Int).Add(goes, rate.Add(rate, new(big.Int).SetUint64(e.Fees[side].Base)))
	}
	return path.Route{Nodes: nodes, Edges: edges, Amounts: amounts}, true
}

// byTheBook are all routes that are there, in their order: made longer and longer, then sorted.
func byTheBook(w web.Web, from, to int, amount uint64) []path.Route {
	var there []path.Route
	type part struct{ nodes, edges []int }
	parts := []part{{nodes: []int{from}}}
	for len(parts) > 0 {
		p := parts[0]
		parts = parts[1:]
		last := p.nodes[len(p.nodes)-1]
		if last == to {
			if r, ok := priced(w, from, p.edges, amount); ok {
				there = append(there, r)
			}
			continue
		}
		for i, e := range w.Edges {
			for side := range 2 {
				if next := e.Ends[1-side]; e.Ends[side] == last && !slices.Contains(p.nodes, next) {
					parts = append(parts, part{slices.Concat(p.nodes, []int{next}), slices.Concat(p.edges, []int{i})})
				}
			}
		}
	}
	slices.SortFunc(there, func(a, b path.Route) int { return slices.Compare(a.Edges, b.Edges) })
	return there[:min(len(there), 32)]
}

// bestByTheBook goes through routes one by one.
func bestByTheBook(l []path.Route) path.Route {
	var best path.Route
	for i, r := range l {
		if i == 0 || r.Amounts[0] < best.Amounts[0] || r.Amounts[0] == best.Amounts[0] && len(r.Edges) < len(best.Edges) {
			best = r
		}
	}
	return best
}

// square is how far two spots are apart, in whole numbers; -1: one isn't on the chart.
func square(a, b chart.Spot) int {
	if max(a.X, a.Y, b.X, b.Y) > 1000 {
		return -1
	}
	return (a.X-b.X)*(a.X-b.X) + (a.Y-b.Y)*(a.Y-b.Y)
}

// greedyByTheBook goes channel by channel, by whole numbers.
func greedyByTheBook(w web.Web, from, to int, amount uint64) path.Route {
	var edges []int
	for at := from; at != to; {
		found, least := -1, square(w.Spots[at], w.Spots[to])
		for i, e := range w.Edges {
			side := slices.Index(e.Ends[:], at)
			if side < 0 || e.Can[side] < amount {
				continue
			}
			if far := square(w.Spots[e.Ends[1-side]], w.Spots[to]); far >= 0 && far < least {
				found, least = i, far
			}
		}
		if found < 0 {
			return path.Route{}
		}
		edges = append(edges, found)
		at = w.Edges[found].Ends[0] + w.Edges[found].Ends[1] - at
	}
	r, _ := priced(w, from, edges, amount)
	return r
}

// P8.1, P8.2: webs by chance, held against the book.
func TestByChance(t *testing.T) {
	r := rand.New(rand.NewSource(8))
	routes, cut, ways, lost := 0, 0, 0, 0
	for range 4000 {
		w := drawn(r)
		from := r.Intn(len(w.Spots))
		to := (from + 1 + r.Intn(len(w.Spots)-1)) % len(w.Spots)
		amount := asked(r, w)
		want := byTheBook(w, from, to, amount)
		wantAll(t, "by chance", w, from, to, amount, want...)
		wantBest(t, "by chance", w, from, to, amount, bestByTheBook(want))
		greedy := greedyByTheBook(w, from, to, amount)
		wantGreedy(t, "by chance", w, from, to, amount, greedy)
		routes += len(want)
		if len(want) == 32 {
			cut++
		}
		if greedy.Long() > 1 {
			ways++
		}
		if none(greedy) && len(want) > 0 {
			lost++
		}
	}
	if routes < 4000 || cut < 10 || ways < 50 || lost < 50 {
		t.Errorf("chance drew too little: %d, %d, %d, %d", routes, cut, ways, lost)
	}
}

// can is what a node can send over all of its channels, as a number without end.
func can(w web.Web, node int) *big.Int {
	sum := new(big.Int)
	for _, e := range w.Edges {
		if side := slices.Index(e.Ends[:], node); side >= 0 {
			sum.Add(sum, new(big.Int).SetUint64(e.Can[side]))
		}
	}
	return sum
}

// wantPaid holds a web behind a route against what each node could send ahead of it.
func wantPaid(t *testing.T, w web.Web, r path.Route, amount uint64) {
	t.Helper()
	paid, e := r.Go(w)
	if e != api.OK || paid.Check() != api.OK {
		t.Errorf("P8.4: %v over %v: %d", r, w, e)
		return
	}
	for node := range w.Spots {
		more := new(big.Int)
		if k := slices.Index(r.Nodes, node); k >= 0 {
			if k > 0 {
				more.Add(more, new(big.Int).SetUint64(r.Amounts[k-1]))
			}
			if k < r.Long() {
				more.Sub(more, new(big.Int).SetUint64(r.Amounts[k]))
			}
		}
		if got := new(big.Int).Sub(can(paid, node), can(w, node)); got.Cmp(more) != 0 {
			t.Errorf("P8.4: %v: the node %d has %v more; want %v", r, node, got, more)
		}
	}
	last := r.Long() - 1
	if r.Amounts[last] != amount {
		t.Errorf("P8.4: %v: %d is to come", r, amount)
	}
	for k := range last {
		step := w.Edges[r.Edges[k+1]]
		fee, e := step.Fees[step.Side(r.Nodes[k+1])].Of(r.Amounts[k+1])
		if e != api.OK || r.Amounts[k]-r.Amounts[k+1] != fee {
			t.Errorf("P8.4: %v: the node %d asks %d, %d", r, r.Nodes[k+1], fee, e)
		}
	}
}

// P8.4: what is found can be paid.
func TestCanBePaid(t *testing.T) {
	r := rand.New(rand.NewSource(84))
	many := 0
	for range 1500 {
		w := drawn(r)
		from := r.Intn(len(w.Spots))
		to := (from + 1 + r.Intn(len(w.Spots)-1)) % len(w.Spots)
		amount := asked(r, w)
		l, _ := path.All(w, from, to, amount)
		if best, e := path.Best(w, from, to, amount); e == api.OK {
			l = append(l, best)
		}
		if greedy, e := path.Greedy(w, from, to, amount); e == api.OK {
			l = append(l, greedy)
		}
		for _, found := range l {
			if found.Nodes[0] != from || found.Nodes[found.Long()] != to {
				t.Errorf("P8.4: %v: from %d to %d", found, from, to)
			}
			wantPaid(t, w, found, amount)
		}
		many += len(l)
	}
	if many < 1500 {
		t.Errorf("chance drew too little: %d", many)
	}
}

// An end that would have too much is asked by nobody but Sent: the route is there, and Go tells Sent's error.
func TestTooMuchToCome(t *testing.T) {
	w := some(2, web.Edge{Ends: [2]int{0, 1}, Can: [2]uint64{9, top - 4}})
	want := route([]int{0, 1}, []int{0}, 5)
	wantAll(t, "one too much", w, 0, 1, 5, want)
	wantGreedy(t, "one too much", w, 0, 1, 5, want)
	if got, e := want.Go(w); e != api.ErrOver || len(got.Spots)+len(got.Edges) != 0 {
		t.Errorf("P8.3: %v, %d", got, e)
	}
}
