package web_test

import (
	"math"
	"slices"
	"testing"

	"tollhouse/api"
	"tollhouse/chart"
	"tollhouse/money"
	"tollhouse/web"
)

const top = math.MaxUint64

// nodes are so many spots, in a row.
func nodes(n int) []chart.Spot {
	l := make([]chart.Spot, n)
	for i := range l {
		l[i] = chart.Spot{X: 10 * i}
	}
	return l
}

// edge is a channel between a and b with what each end can send. Each end's fee is its own.
func edge(a, b int, can, back uint64) web.Edge {
	return web.Edge{Ends: [2]int{a, b}, Can: [2]uint64{can, back}, Fees: [2]money.Fee{fee(a, b), fee(b, a)}}
}

func fee(from, to int) money.Fee {
	return money.Fee{Base: uint64(100 + from), Rate: uint64(200 + to)}
}

func some(n int, l ...web.Edge) web.Web { return web.Web{Spots: nodes(n), Edges: l} }

// same says whether two webs are one, nil and empty lists being one.
func same(a, b web.Web) bool {
	return slices.Equal(a.Spots, b.Spots) && slices.Equal(a.Edges, b.Edges)
}

func twin(w web.Web) web.Web {
	return web.Web{Spots: slices.Clone(w.Spots), Edges: slices.Clone(w.Edges)}
}

// many are so many channels between the nodes 0 and 1.
func many(n int) []web.Edge {
	l := make([]web.Edge, n)
	for i := range l {
		l[i] = edge(i%2, 1-i%2, uint64(i), uint64(i+1))
	}
	return l
}

// wrong are webs that may not be, and why.
func wrong() []struct {
	name string
	w    web.Web
	e    api.Errno
} {
	return []struct {
		name string
		w    web.Web
		e    api.Errno
	}{
		{"9 nodes", some(9), api.ErrLimit},
		{"9 nodes, a channel", some(9, edge(0, 1, 5, 3)), api.ErrLimit},
		{"1000 nodes", some(1000), api.ErrLimit},
		{"17 channels", some(2, many(17)...), api.ErrLimit},
		{"17 channels of 8 nodes", some(8, many(17)...), api.ErrLimit},
		{"17 channels of no node", some(0, many(17)...), api.ErrLimit},
		{"9 nodes, an end that isn't a node", some(9, edge(0, 9, 5, 3)), api.ErrLimit},
		{"17 channels, both ends one", some(2, append(many(16), edge(0, 0, 5, 3))...), api.ErrLimit},
		{"a channel of no node", some(0, edge(0, 1, 5, 3)), api.ErrArg},
		{"a channel of one node", some(1, edge(0, 1, 5, 3)), api.ErrArg},
		{"the first end one too great", some(2, edge(2, 0, 5, 3)), api.ErrArg},
		{"the second end one too great", some(2, edge(0, 2, 5, 3)), api.ErrArg},
		{"the second end 8 of 8", some(8, edge(0, 8, 5, 3)), api.ErrArg},
		{"the first end below 0", some(2, edge(-1, 0, 5, 3)), api.ErrArg},
		{"the second end below 0", some(2, edge(0, -1, 5, 3)), api.ErrArg},
		{"the least number", some(2, edge(0, math.MinInt, 5, 3)), api.ErrArg},
		{"the greatest number", some(2, edge(math.MaxInt, 0, 5, 3)), api.ErrArg},
		{"both ends one", some(2, edge(1, 1, 5, 3)), api.ErrArg},
		{"both ends one, that isn't a node", some(2, edge(2, 2, 5, 3)), api.ErrArg},
		{"the zero channel", some(2, web.Edge{}), api.ErrArg},
		{"the last channel", some(3, edge(0, 1, 5, 3), edge(1, 2, 5, 3), edge(2, 2, 5, 3)), api.ErrArg},
	}
}

// P7.1.
func TestCheck(t *testing.T) {
	out := some(2, edge(0, 1, 5, 3))
	out.Spots[0] = chart.Spot{X: 1001, Y: math.MinInt}
	for name, w := range map[string]web.Web{
		"the zero web":            {},
		"empty lists":             {Spots: []chart.Spot{}, Edges: []web.Edge{}},
		"one node":                some(1),
		"8 nodes":                 some(8),
		"8 nodes, a channel":      some(8, edge(7, 0, 5, 3)),
		"16 channels":             some(2, many(16)...),
		"both limits":             some(8, many(16)...),
		"two between the same":    some(2, edge(0, 1, 5, 3), edge(1, 0, 0, 0)),
		"amounts that are great":  some(2, edge(0, 1, top, top), edge(0, 1, top, top)),
		"all nodes at one spot":   {Spots: make([]chart.Spot, 8), Edges: many(3)},
		"a spot out of the chart": out,
	} {
		if e := w.Check(); e != api.OK {
			t.Errorf("P7.1: %s: %d", name, e)
		}
	}
	for _, c := range wrong() {
		if e := c.w.Check(); e != c.e {
			t.Errorf("P7.1: %s: %d; want %d", c.name, e, c.e)
		}
	}
}

// P7.1: at which end a node is, of channels that may not be, too.
func TestSide(t *testing.T) {
	for _, c := range []struct{ first, second, node, want int }{
		{0, 1, 0, 0}, {0, 1, 1, 1}, {1, 0, 0, 1}, {1, 0, 1, 0}, {0, 1, 2, -1}, {0, 1, -1, -1},
		{3, 7, 7, 1}, {3, 7, 0, -1}, {5, 5, 5, 0}, {5, 5, 4, -1}, {-1, 2, -1, 0},
		{0, math.MinInt, math.MinInt, 1}, {math.MaxInt, 0, math.MaxInt, 0}, {0, 1, math.MaxInt, -1}, {0, 1, math.MinInt, -1},
	} {
		e := edge(c.first, c.second, 5, 3)
		if got := e.Side(c.node); got != c.want {
			t.Errorf("P7.1: the node %d of the ends %v: %d; want %d", c.node, e.Ends, got, c.want)
		}
	}
	if (web.Edge{}).Side(0) != 0 || (web.Edge{}).Side(1) != -1 {
		t.Error("P7.1: the zero channel")
	}
}

// P7.1: by channels, with the node's own amount and fee, whichever end it is.
func TestSteps(t *testing.T) {
	w := some(4, edge(0, 1, 5, 3), edge(2, 0, 7, 0), edge(1, 2, 1, 2), edge(1, 0, top, 9))
	for node, want := range [][]web.Step{
		{{Edge: 0, To: 1, Can: 5, Fee: fee(0, 1)}, {Edge: 1, To: 2, Can: 0, Fee: fee(0, 2)}, {Edge: 3, To: 1, Can: 9, Fee: fee(0, 1)}},
		{{Edge: 0, To: 0, Can: 3, Fee: fee(1, 0)}, {Edge: 2, To: 2, Can: 1, Fee: fee(1, 2)}, {Edge: 3, To: 0, Can: top, Fee: fee(1, 0)}},
		{{Edge: 1, To: 0, Can: 7, Fee: fee(2, 0)}, {Edge: 2, To: 1, Can: 2, Fee: fee(2, 1)}},
		nil,
	} {
		if got := w.Steps(node); !slices.Equal(got, want) {
			t.Errorf("P7.1: the steps of %d: %v; want %v", node, got, want)
		}
	}
	for _, node := range []int{-1, 4, 8, math.MinInt, math.MaxInt} {
		if got := w.Steps(node); len(got) != 0 {
			t.Errorf("P7.1: the steps of %d, which isn't there: %v", node, got)
		}
	}
	if got := some(2, many(16)...).Steps(1); len(got) != 16 || got[15].Edge != 15 || got[15].Can != 15 || got[14].Can != 15 {
		t.Errorf("P7.1: the steps over 16 channels: %v", got)
	}
	if got := (web.Web{}).Steps(0); len(got) != 0 {
		t.Errorf("P7.1: the steps of the zero web: %v", got)
	}
}

// P7.1 to P7.3: a web that may not be has no steps, reaches nothing, nobody is near, and nothing is sent in it.
func TestWrongWebs(t *testing.T) {
	for _, c := range wrong() {
		for _, node := range []int{-1, 0, 1, 2, 8, 9} {
			if l := c.w.Steps(node); len(l) != 0 {
				t.Errorf("P7.1: %s: steps of %d: %v", c.name, node, l)
			}
			if l := c.w.Reach(node, 0); len(l) != 0 {
				t.Errorf("P7.2: %s: %d reaches %v", c.name, node, l)
			}
			if n := c.w.Near(node, chart.Spot{}, 0); n != -1 {
				t.Errorf("P7.2: %s: near by %d: %d", c.name, node, n)
			}
			for _, edge := range []int{-1, 0, 99} {
				if got, e := c.w.Sent(edge, node, 0); !same(got, web.Web{}) || e != c.e {
					t.Errorf("P7.3: %s: sent by %d over %d: %v, %d; want %d", c.name, node, edge, got, e, c.e)
				}
			}
		}
	}
}

// P7.2: one behind the other, by what each end can send; rising.
func TestReach(t *testing.T) {
	// 4 -> 2 -> 0 with at most 5, back with at most 3; 2 - 3 twice, with 1 and with 8; 1 and 5 by themselves, 6 - 7 apart.
	w := some(8, edge(4, 2, 6, 3), edge(0, 2, 4, 5), edge(2, 3, 1, 1), edge(3, 2, 0, 8), edge(6, 7, top, 0))
	for _, c := range []struct {
		node   int
		amount uint64
		want   []int
	}{
		{4, 0, []int{0, 2, 3, 4}},
		{4, 5, []int{0, 2, 3, 4}},
		{4, 6, []int{2, 3, 4}},
		{4, 7, []int{4}},
		{0, 3, []int{0, 2, 3, 4}},
		{0, 4, []int{0, 2, 3}},
		{0, 5, []int{0}},
		{3, 0, []int{0, 2, 3, 4}},
		{3, 1, []int{0, 2, 3, 4}},
		{3, 2, []int{3}},
		{2, 8, []int{2, 3}},
		{2, 9, []int{2}},
		{1, 0, []int{1}},
		{5, top, []int{5}},
		{6, top, []int{6, 7}},
		{7, 1, []int{7}},
		{7, 0, []int{6, 7}},
		{-1, 0, nil},
		{8, 0, nil},
		{math.MinInt, 0, nil},
		{math.MaxInt, 0, nil},
	} {
		if got := w.Reach(c.node, c.amount); !slices.Equal(got, c.want) {
			t.Errorf("P7.2: %d reaches with %d: %v; want %v", c.node, c.amount, got, c.want)
		}
	}
	if l := (web.Web{}).Reach(0, 0); len(l) != 0 {
		t.Errorf("P7.2: in the zero web 0 reaches %v", l)
	}
	if l := some(1).Reach(0, top); !slices.Equal(l, []int{0}) {
		t.Errorf("P7.2: a node alone reaches %v", l)
	}
}

// P7.2: all along the longest way, in whichever order its channels stand; and round a ring.
func TestReachFar(t *testing.T) {
	var l []web.Edge
	for i := range 7 {
		l = append(l, edge(i, i+1, 2, 1))
	}
	all := []int{0, 1, 2, 3, 4, 5, 6, 7}
	for range 2 {
		w := some(8, l...)
		for i := range 8 {
			if got := w.Reach(i, 1); !slices.Equal(got, all) {
				t.Errorf("P7.2: %d reaches %v", i, got)
			}
			if got := w.Reach(i, 2); !slices.Equal(got, all[i:]) {
				t.Errorf("P7.2: %d reaches %v with 2", i, got)
			}
		}
		slices.Reverse(l)
	}
	w := some(8, append(l, edge(7, 0, 2, 0))...)
	for i := range 8 {
		if got := w.Reach(i, 2); !slices.Equal(got, all) {
			t.Errorf("P7.2: round the ring %d reaches %v", i, got)
		}
	}
}

// P7.2: the nearest by spots, among the steps that can send the amount.
func TestNear(t *testing.T) {
	spot := func(x, y int) chart.Spot { return chart.Spot{X: x, Y: y} }
	w := some(6, edge(0, 3, 5, 0), edge(2, 0, 9, 5), edge(0, 1, 4, 7), edge(1, 0, 0, 6), edge(4, 0, 1, 6), edge(4, 5, 8, 8))
	w.Spots = []chart.Spot{spot(0, 0), spot(10, 0), spot(0, 10), spot(0, -10), spot(1001, 0), spot(3, 3)}
	for _, c := range []struct {
		node   int
		to     chart.Spot
		amount uint64
		want   int
	}{
		{0, spot(9, 0), 0, 1},
		{0, spot(0, 9), 0, 2},
		{0, spot(0, -1000), 0, 3},
		// Over one channel to 1 no 6 can go, over the other one it can.
		{0, spot(9, 0), 6, 1},
		{0, spot(0, 9), 5, 2},
		{0, spot(0, 9), 6, 1},
		// As far from several: the one whose channel comes first.
		{0, spot(0, 0), 4, 3},
		{0, spot(5, 5), 0, 2},
		{0, spot(-7, 0), 5, 3},
		{0, spot(-7, 0), 6, 1},
		{0, spot(9, 0), 7, -1},
		{0, spot(0, 0), top, -1},
		// The node itself is nearer, and so is 5, but no step leads to them.
		{0, spot(3, 3), 0, 2},
		{1, spot(1000, 1000), 7, 0},
		{1, spot(1000, 1000), 8, -1},
		{3, spot(0, 0), 0, 0},
		{3, spot(0, 0), 1, -1},
		{4, spot(0, 0), 1, 0},
		{4, spot(0, 0), 2, 5},
		// 4 isn't on the chart: nobody is near by way of it alone.
		{5, spot(1000, 0), 0, -1},
		{0, spot(1000, 0), 6, 1},
		// to isn't on the chart.
		{0, spot(1001, 0), 0, -1},
		{0, spot(0, -1001), 0, -1},
		{0, spot(math.MinInt, math.MaxInt), 0, -1},
		{-1, spot(0, 0), 0, -1},
		{6, spot(0, 0), 0, -1},
		{math.MinInt, spot(0, 0), 0, -1},
		{math.MaxInt, spot(0, 0), 0, -1},
	} {
		if got := w.Near(c.node, c.to, c.amount); got != c.want {
			t.Errorf("P7.2: near %v by %d with %d: %d; want %d", c.to, c.node, c.amount, got, c.want)
		}
	}
	if n := (web.Web{}).Near(0, chart.Spot{}, 0); n != -1 {
		t.Errorf("P7.2: near in the zero web: %d", n)
	}
}

// P7.3: nothing, all, and one more; to the greatest number and beyond it.
func TestSent(t *testing.T) {
	w := some(3, edge(0, 1, 5, 3), edge(1, 2, top-4, 4), edge(2, 1, 6, top-5), edge(0, 2, top, top))
	for _, c := range []struct {
		edge, node int
		amount     uint64
		want       [2]uint64
		e          api.Errno
	}{
		{0, 0, 2, [2]uint64{3, 5}, api.OK},
		{0, 1, 2, [2]uint64{7, 1}, api.OK},
		{0, 0, 0, [2]uint64{5, 3}, api.OK},
		{0, 0, 5, [2]uint64{0, 8}, api.OK},
		{0, 1, 3, [2]uint64{8, 0}, api.OK},
		{0, 0, 6, [2]uint64{}, api.ErrRoom},
		{0, 1, 4, [2]uint64{}, api.ErrRoom},
		{0, 1, top, [2]uint64{}, api.ErrRoom},
		{1, 2, 4, [2]uint64{top, 0}, api.OK},
		{1, 1, top - 4, [2]uint64{0, top}, api.OK},
		{2, 2, 5, [2]uint64{1, top}, api.OK},
		{2, 2, 6, [2]uint64{}, api.ErrOver},
		{2, 2, 7, [2]uint64{}, api.ErrRoom},
		{3, 0, 0, [2]uint64{top, top}, api.OK},
		{3, 0, 1, [2]uint64{}, api.ErrOver},
		{3, 2, top, [2]uint64{}, api.ErrOver},
		{0, 2, 0, [2]uint64{}, api.ErrArg},
		{0, 2, top, [2]uint64{}, api.ErrArg},
		{1, 0, 0, [2]uint64{}, api.ErrArg},
		{0, -1, 0, [2]uint64{}, api.ErrArg},
		{0, 3, 0, [2]uint64{}, api.ErrArg},
		{0, math.MinInt, 0, [2]uint64{}, api.ErrArg},
		{0, math.MaxInt, 0, [2]uint64{}, api.ErrArg},
		{-1, 0, 0, [2]uint64{}, api.ErrArg},
		{4, 0, 0, [2]uint64{}, api.ErrArg},
		{math.MinInt, 0, 0, [2]uint64{}, api.ErrArg},
		{math.MaxInt, 0, 0, [2]uint64{}, api.ErrArg},
	} {
		want := web.Web{}
		if c.e == api.OK {
			want = twin(w)
			want.Edges[c.edge].Can = c.want
		}
		if got, e := w.Sent(c.edge, c.node, c.amount); !same(got, want) || e != c.e {
			t.Errorf("P7.3: %d sent by %d over %d: %v, %d; want %v, %d", c.amount, c.node, c.edge, got, e, want, c.e)
		}
	}
	for _, w := range []web.Web{{}, some(8)} {
		if got, e := w.Sent(0, 0, 0); !same(got, web.Web{}) || e != api.ErrArg {
			t.Errorf("P7.3: sent without a channel: %v, %d", got, e)
		}
	}
}

// P7.3: what all ends can send, of webs that may not be, too.
func TestAll(t *testing.T) {
	for name, c := range map[string]struct {
		w    web.Web
		want uint64
		e    api.Errno
	}{
		"the zero web":              {web.Web{}, 0, api.OK},
		"no channel":                {some(8), 0, api.OK},
		"two channels":              {some(3, edge(0, 1, 5, 3), edge(1, 2, 70, 900)), 978, api.OK},
		"16 channels":               {some(2, many(16)...), 256, api.OK},
		"the greatest, one end":     {some(2, edge(0, 1, 0, top)), top, api.OK},
		"the greatest, all ends":    {some(2, edge(0, 1, 1<<63, 1<<62), edge(1, 0, 1<<62-4, 3)), top, api.OK},
		"one more, in one channel":  {some(2, edge(0, 1, top, 1)), 0, api.ErrOver},
		"one more, by the last end": {some(2, edge(0, 1, 1<<63, 1<<62), edge(1, 0, 1<<62-4, 4)), 0, api.ErrOver},
		"beyond, in the middle":     {some(2, edge(0, 1, 1, 1), edge(0, 1, top, top), edge(0, 1, 1, 1)), 0, api.ErrOver},
		"twice the greatest":        {some(2, edge(0, 1, top, 0), edge(0, 1, 0, top)), 0, api.ErrOver},
		"an end that isn't a node":  {some(1, edge(0, 9, 5, 3)), 8, api.OK},
		"17 channels":               {some(2, many(17)...), 289, api.OK},
	} {
		if got, e := c.w.All(); got != c.want || e != c.e {
			t.Errorf("P7.3: %s: %d, %d; want %d, %d", name, got, e, c.want, c.e)
		}
	}
}

// P7.4: over every channel, from either end, of every amount that can go.
func TestSentKeepsAll(t *testing.T) {
	w := some(4, edge(0, 1, 5, 3), edge(1, 0, 2, 9), edge(3, 2, 0, 6), edge(1, 3, 1<<62, top/2))
	all, _ := w.All()
	for i, e := range w.Edges {
		for side, node := range e.Ends {
			for _, amount := range []uint64{0, 1, 2, 3, e.Can[side] / 2, e.Can[side]} {
				if amount > e.Can[side] {
					continue
				}
				there, f := w.Sent(i, node, amount)
				if f != api.OK {
					t.Fatalf("P7.3: %d sent by %d over %d: %d", amount, node, i, f)
				}
				if got, f := there.All(); got != all || f != api.OK {
					t.Errorf("P7.4: All: %d, %d; want %d", got, f, all)
				}
				if back, f := there.Sent(i, e.Ends[1-side], amount); !same(back, w) || f != api.OK {
					t.Errorf("P7.4: there and back: %v, %d; want %v", back, f, w)
				}
			}
		}
	}
	// Of a web whose All is beyond the greatest number it stays so.
	great := some(2, edge(0, 1, top, 0), edge(0, 1, 1, 0))
	sent, e := great.Sent(0, 0, top)
	if n, f := sent.All(); e != api.OK || n != 0 || f != api.ErrOver {
		t.Errorf("P7.4: All beyond: %d, %d, %d", e, n, f)
	}
}

// P7.3, R3: the web that is handed in isn't turned, nor the room behind it, and is no part of what comes.
func TestSentIsNew(t *testing.T) {
	spots, edges := nodes(8), many(16)
	w := web.Web{Spots: spots[:3], Edges: edges[:4]}
	before := twin(w)
	sent, e := w.Sent(3, 1, 2)
	other, _ := w.Sent(3, 1, 2)
	if e != api.OK || !same(w, before) || !slices.Equal(spots, nodes(8)) || !slices.Equal(edges, many(16)) {
		t.Fatalf("R3: Sent changed what was handed in: %v, %d", w, e)
	}
	kept := twin(sent)
	clear(spots)
	clear(edges)
	if !same(sent, kept) {
		t.Error("R3: Sent kept what was handed in")
	}
	clear(sent.Spots[:cap(sent.Spots)])
	clear(sent.Edges[:cap(sent.Edges)])
	if !same(other, kept) {
		t.Error("R3: two answers share their memory")
	}
}

// R3: no call turns the web it is called on; steps and reached nodes are new memory.
func TestWebIsKept(t *testing.T) {
	w := some(4, edge(0, 1, 5, 3), edge(2, 0, 7, 1), edge(1, 2, 1, 2))
	before := twin(w)
	for node := -1; node < 5; node++ {
		steps, reached := w.Steps(node), w.Reach(node, 1)
		want, far := slices.Clone(steps), slices.Clone(reached)
		clear(steps[:cap(steps)])
		clear(reached[:cap(reached)])
		if !slices.Equal(w.Steps(node), want) || !slices.Equal(w.Reach(node, 1), far) {
			t.Errorf("R3: answers for %d share their memory", node)
		}
		w.Near(node, chart.Spot{X: 5}, 1)
		w.Sent(9, node, 1)
		w.Sent(0, node, 6)
		w.All()
		w.Check()
	}
	if !same(w, before) {
		t.Errorf("R3: the web was turned: %v", w)
	}
}
