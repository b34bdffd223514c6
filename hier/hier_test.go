package hier_test

import (
	"math"
	"slices"
	"testing"

	"gloaming/api"
	"gloaming/flood"
	"gloaming/gate"
	"gloaming/hier"
	"gloaming/part"
	"gloaming/redo"
	"gloaming/route"
	"gloaming/sat"
	"gloaming/star"
)

// below0 are budgets that may not be.
func below0() []int { return []int{-1, -2, -1 << 32, math.MinInt} }

// off are cells just off a map, and far from it; some would be on it, if numbers went round.
func off(s api.Size) []api.Cell {
	l := []api.Cell{{X: -1}, {Y: -1}, {X: -1, Y: -1}, {X: s.W}, {Y: s.H}, {X: s.W, Y: s.H}, {X: s.W - 1, Y: s.H}, {X: s.W, Y: s.H - 1}, {X: -1, Y: 1}}
	for _, n := range []int{math.MaxInt, math.MinInt, 1 << 32, -1 << 32} {
		l = append(l, api.Cell{X: n}, api.Cell{Y: n}, api.Cell{X: n, Y: n})
	}
	return l
}

// rand is numbers without a plain rule, others by each seed.
type rand uint64

// below is the next one, from 0 to n less 1.
func (r *rand) below(n int) int {
	*r = *r*6364136223846793005 + 1442695040888963407
	return int(uint64(*r) >> 33 % uint64(n))
}

// cell is any one of a map.
func (r *rand) cell(s api.Size) api.Cell {
	return api.Cell{X: r.below(s.W), Y: r.below(s.H)}
}

// field is one of costs that are told row by row.
func field(w, h int, costs ...uint16) api.Field {
	return api.Field{Size: api.Size{W: w, H: h}, Cost: costs}
}

// even is a field of one cost.
func even(s api.Size, cost uint16) api.Field {
	return api.Field{Size: s, Cost: slices.Repeat([]uint16{cost}, s.W*s.H)}
}

// few and many are costs by which often, and seldom, several ways cost the same.
func few() []uint16  { return []uint16{1, 2, 3} }
func many() []uint16 { return []uint16{1, 2, 7, 255, 256, 1000, 32768, 65535} }

// strewn is a field of which walls in 100 cells are walls, and the others have costs from a list.
func strewn(s api.Size, walls int, costs []uint16, r *rand) api.Field {
	f := even(s, 0)
	for i := range f.Cost {
		if r.below(100) >= walls {
			f.Cost[i] = costs[r.below(len(costs))]
		}
	}
	return f
}

// with is the same field, in which some cells have another cost.
func with(f api.Field, cost uint16, cells ...api.Cell) api.Field {
	g := api.Field{Size: f.Size, Cost: slices.Clone(f.Cost)}
	for _, c := range cells {
		g.Cost[c.Y*f.Size.W+c.X] = cost
	}
	return g
}

// cost is that of a cell that is on the map.
func cost(f api.Field, c api.Cell) uint64 {
	return uint64(f.Cost[c.Y*f.Size.W+c.X])
}

// all are the cells of a map, row by row.
func all(s api.Size) []api.Cell {
	var l []api.Cell
	for y := range s.H {
		for x := range s.W {
			l = append(l, api.Cell{X: x, Y: y})
		}
	}
	return l
}

// made is the world of a field.
func made(t *testing.T, f api.Field, side int) *redo.World {
	t.Helper()
	w, e := redo.New(f, side)
	if e != api.OK {
		t.Fatal(e)
	}
	return w
}

// each calls tell with all fields of a size whose cells have these costs.
func each(s api.Size, costs []uint16, tell func(f api.Field)) {
	f := even(s, costs[0])
	var fill func(i int)
	fill = func(i int) {
		if i == len(f.Cost) {
			tell(f)
			return
		}
		for _, n := range costs {
			f.Cost[i] = n
			fill(i + 1)
		}
	}
	fill(0)
}

// some calls tell with fields of many sizes, with few and with many walls, and sides.
func some(tell func(f api.Field, side int, r *rand)) {
	r := rand(15)
	for _, s := range []api.Size{{W: 1, H: 1}, {W: 1, H: 9}, {W: 9, H: 1}, {W: 2, H: 7}, {W: 6, H: 6}, {W: 11, H: 7}, {W: 9, H: 14}, {W: 17, H: 16}} {
		for _, walls := range []int{0, 12, 30, 50, 100} {
			for _, costs := range [][]uint16{few(), many(), {1}} {
				f := strewn(s, walls, costs, &r)
				for _, side := range []int{2, 3, 5, 8, 16} {
					tell(f, side, &r)
				}
			}
		}
	}
}

// plain is a search, as the chapter's words say it.
type plain struct {
	field    api.Field
	parts    part.Parts
	gates    []gate.Gate
	from, to api.Cell
	nodes    []api.Cell
	legs     map[api.Cell][]hier.Leg
}

// plainOf is that of a field, and two cells.
func plainOf(f api.Field, side int, from, to api.Cell) *plain {
	p := &plain{field: f, parts: part.Parts{Size: f.Size, Side: side}, from: from, to: to, legs: map[api.Cell][]hier.Leg{}}
	p.gates, _ = gate.Of(f, p.parts)
	is := map[api.Cell]bool{from: true, to: true}
	for _, g := range p.gates {
		is[g.A], is[g.B] = true, true
	}
	p.nodes = slices.DeleteFunc(all(f.Size), func(c api.Cell) bool { return !is[c] })
	return p
}

// box is that of a cell's cluster.
func (p *plain) box(c api.Cell) api.Box {
	x, y := c.X-c.X%p.parts.Side, c.Y-c.Y%p.parts.Side
	return api.Box{X: x, Y: y, W: min(p.parts.Side, p.field.Size.W-x), H: min(p.parts.Side, p.field.Size.H-y)}
}

// legsOf are those from a node.
func (p *plain) legsOf(at api.Cell) []hier.Leg {
	if l, is := p.legs[at]; is {
		return l
	}
	var l []hier.Leg
	far, _ := flood.Within(p.field, p.box(at), at)
	for _, to := range p.nodes {
		if n := far[to.Y*p.field.Size.W+to.X]; to != at && n != sat.Inf {
			l = append(l, hier.Leg{From: at, To: to, Cost: n})
		}
	}
	for _, g := range p.gates {
		if g.A == at {
			l = append(l, hier.Leg{From: at, To: g.B, Cost: cost(p.field, g.B)})
		}
		if g.B == at {
			l = append(l, hier.Leg{From: at, To: g.A, Cost: cost(p.field, g.A)})
		}
	}
	p.legs[at] = l
	return l
}

// find is what the search comes to.
func (p *plain) find(budget int) (star.Result, api.Errno) {
	if cost(p.field, p.from) == 0 || cost(p.field, p.to) == 0 {
		return star.Result{}, api.ErrPath
	}
	open := map[api.Cell]uint64{p.from: 0}
	settled := map[api.Cell]bool{}
	came := map[api.Cell]api.Cell{}
	for {
		if len(open) == 0 {
			return star.Result{Settled: len(settled)}, api.ErrPath
		}
		if len(settled) == budget {
			return star.Result{Settled: len(settled)}, api.ErrBudget
		}
		at, g := api.Cell{}, uint64(sat.Inf)
		for _, c := range p.nodes { // row by row, so of several the first one is told
			if n, is := open[c]; is && n < g {
				at, g = c, n
			}
		}
		delete(open, at)
		settled[at] = true
		if at == p.to {
			return star.Result{Path: p.path(came), Cost: g, Settled: len(settled)}, api.OK
		}
		for _, leg := range p.legsOf(at) {
			was, is := open[leg.To]
			if !settled[leg.To] && (!is || was > g+leg.Cost) {
				open[leg.To] = g + leg.Cost
				came[leg.To] = at
			}
		}
	}
}

// path is the ways of the legs to the goal, one behind the other.
func (p *plain) path(came map[api.Cell]api.Cell) []api.Cell {
	path := []api.Cell{p.to}
	for at := p.to; at != p.from; at = came[at] {
		way := []api.Cell{came[at], at}
		if p.box(came[at]) == p.box(at) {
			way, _, _ = flood.Path(p.field, p.box(at), came[at], at)
		}
		path, _ = route.Join(way, path)
	}
	return path
}

// least is how far each cell is from one, row by row, on ways that go from cluster to cluster only through gates: cell by cell, till nothing gets less.
func least(f api.Field, side int, from api.Cell) []uint64 {
	p := plainOf(f, side, from, from)
	crosses := map[[2]api.Cell]bool{}
	for _, g := range p.gates {
		crosses[[2]api.Cell{g.A, g.B}], crosses[[2]api.Cell{g.B, g.A}] = true, true
	}
	far := slices.Repeat([]uint64{sat.Inf}, len(f.Cost))
	if cost(f, from) == 0 {
		return far
	}
	far[from.Y*f.Size.W+from.X] = 0
	for waits := []api.Cell{from}; len(waits) > 0; waits = waits[1:] {
		c := waits[0]
		for _, d := range []api.Cell{{X: c.X, Y: c.Y - 1}, {X: c.X + 1, Y: c.Y}, {X: c.X, Y: c.Y + 1}, {X: c.X - 1, Y: c.Y}} {
			if d.X < 0 || d.Y < 0 || d.X >= f.Size.W || d.Y >= f.Size.H || cost(f, d) == 0 || p.box(c) != p.box(d) && !crosses[[2]api.Cell{c, d}] {
				continue
			}
			if n := far[c.Y*f.Size.W+c.X] + cost(f, d); n < far[d.Y*f.Size.W+d.X] {
				far[d.Y*f.Size.W+d.X] = n
				waits = append(waits, d)
			}
		}
	}
	return far
}

// same tells whether two results are.
func same(a, b star.Result) bool {
	return slices.Equal(a.Path, b.Path) && a.Cost == b.Cost && a.Settled == b.Settled
}

// told fails, if Find tells something else.
func told(t *testing.T, w *redo.World, from, to api.Cell, budget int, want star.Result, fault api.Errno) {
	t.Helper()
	r, e := hier.Find(w, from, to, budget)
	if !same(r, want) || e != fault {
		t.Fatalf("%v, %v: Find(%v, %v, %d) = %v, %v, not %v, %v", w.Field(), w.Parts(), from, to, budget, r, e, want, fault)
	}
}

// nodesAre fails, if Nodes tells something else.
func nodesAre(t *testing.T, w *redo.World, from, to api.Cell, want []api.Cell) {
	t.Helper()
	if l, e := hier.Nodes(w, from, to); e != api.OK || !slices.Equal(l, want) {
		t.Fatalf("%v, %v: Nodes(%v, %v) = %v, %v, not %v", w.Field(), w.Parts(), from, to, l, e, want)
	}
}

// legsAre fails, if Legs tells something else.
func legsAre(t *testing.T, w *redo.World, from, to, at api.Cell, want []hier.Leg) {
	t.Helper()
	if l, e := hier.Legs(w, from, to, at); e != api.OK || !slices.Equal(l, want) {
		t.Fatalf("%v, %v: Legs(%v, %v, %v) = %v, %v, not %v", w.Field(), w.Parts(), from, to, at, l, e, want)
	}
}

// netIs fails, if Nodes, or Legs of any cell of the map, tells something else than the chapter's words.
func netIs(t *testing.T, w *redo.World, p *plain) {
	t.Helper()
	nodesAre(t, w, p.from, p.to, p.nodes)
	for _, at := range all(p.field.Size) {
		if slices.Contains(p.nodes, at) {
			legsAre(t, w, p.from, p.to, at, p.legsOf(at))
		} else if l, e := hier.Legs(w, p.from, p.to, at); l != nil || e != api.ErrNone {
			t.Fatalf("%v, %v: Legs(%v, %v, %v) = %v, %v", w.Field(), w.Parts(), p.from, p.to, at, l, e)
		}
	}
}

// findIs fails, if Find tells something else than the chapter's words, with any budget.
func findIs(t *testing.T, w *redo.World, p *plain) {
	t.Helper()
	for budget := range len(p.nodes) + 2 {
		want, fault := p.find(budget)
		told(t, w, p.from, p.to, budget, want, fault)
	}
}

// refused fails, if any call answers another error, or something beside it.
func refused(t *testing.T, w *redo.World, from, to, at api.Cell, budget int, fault api.Errno) {
	t.Helper()
	told(t, w, from, to, budget, star.Result{}, fault)
	if l, e := hier.Nodes(w, from, to); l != nil || e != fault {
		t.Errorf("Nodes(%v, %v) = %v, %v, not %v", from, to, l, e, fault)
	}
	if l, e := hier.Legs(w, from, to, at); l != nil || e != fault {
		t.Errorf("Legs(%v, %v, %v) = %v, %v, not %v", from, to, at, l, e, fault)
	}
}

// P15.1 and P15.2

func TestAllSmallFields(t *testing.T) {
	for _, x := range []struct {
		s     api.Size
		costs []uint16
	}{{api.Size{W: 3, H: 2}, []uint16{0, 1, 2}}, {api.Size{W: 1, H: 4}, []uint16{0, 1, 2}}, {api.Size{W: 4, H: 1}, []uint16{0, 1, 5}}, {api.Size{W: 2, H: 3}, []uint16{0, 1}}} {
		each(x.s, x.costs, func(f api.Field) {
			w := made(t, f, 2)
			for _, from := range all(f.Size) {
				for _, to := range all(f.Size) {
					p := plainOf(f, 2, from, to)
					netIs(t, w, p)
					findIs(t, w, p)
				}
			}
		})
	}
}

func TestAllWallsOfASmallField(t *testing.T) {
	r := rand(2)
	for _, s := range []api.Size{{W: 3, H: 3}, {W: 5, H: 2}, {W: 3, H: 4}} {
		each(s, []uint16{0, 1}, func(f api.Field) {
			w := made(t, f, 2)
			for range 3 {
				p := plainOf(f, 2, r.cell(s), r.cell(s))
				netIs(t, w, p)
				findIs(t, w, p)
			}
		})
	}
}

func TestSomeFields(t *testing.T) {
	some(func(f api.Field, side int, r *rand) {
		w := made(t, f, side)
		for range 3 {
			p := plainOf(f, side, r.cell(f.Size), r.cell(f.Size))
			nodesAre(t, w, p.from, p.to, p.nodes)
			for _, at := range []api.Cell{p.from, p.to, p.nodes[r.below(len(p.nodes))], p.nodes[r.below(len(p.nodes))]} {
				legsAre(t, w, p.from, p.to, at, p.legsOf(at))
			}
			for _, budget := range []int{0, 1, r.below(len(p.nodes) + 1), len(p.nodes), api.MaxBudget, math.MaxInt} {
				want, fault := p.find(budget)
				told(t, w, p.from, p.to, budget, want, fault)
			}
		}
	})
}

func TestManyTies(t *testing.T) {
	// Of even costs most nodes have others of the same G, and there are many paths that cost least.
	for _, s := range []api.Size{{W: 7, H: 7}, {W: 10, H: 5}, {W: 12, H: 12}} {
		for side := 2; side <= 6; side++ {
			f := even(s, 3)
			w := made(t, f, side)
			r := rand(side)
			for range 20 {
				p := plainOf(f, side, r.cell(s), r.cell(s))
				want, fault := p.find(api.MaxBudget)
				told(t, w, p.from, p.to, api.MaxBudget, want, fault)
			}
		}
	}
}

func TestAMapOfOneCluster(t *testing.T) {
	// There are no gates: all that there is is the leg from the one end to the other.
	f := field(3, 3, 1, 9, 1, 1, 9, 1, 1, 1, 1)
	for _, side := range []int{3, 4, 16} {
		w := made(t, f, side)
		from, to := api.Cell{}, api.Cell{X: 2}
		nodesAre(t, w, from, to, []api.Cell{from, to})
		nodesAre(t, w, to, from, []api.Cell{from, to})
		nodesAre(t, w, to, to, []api.Cell{to})
		legsAre(t, w, from, to, from, []hier.Leg{{From: from, To: to, Cost: 6}})
		legsAre(t, w, from, to, to, []hier.Leg{{From: to, To: from, Cost: 6}})
		legsAre(t, w, to, to, to, nil)
		told(t, w, from, to, 2, star.Result{Path: []api.Cell{{}, {Y: 1}, {Y: 2}, {X: 1, Y: 2}, {X: 2, Y: 2}, {X: 2, Y: 1}, {X: 2}}, Cost: 6, Settled: 2}, api.OK)
	}
}

func TestFromACellToItself(t *testing.T) {
	f := even(api.Size{W: 5, H: 5}, 4)
	w := made(t, f, 2)
	for _, c := range all(f.Size) {
		for _, budget := range []int{1, 2, 99, math.MaxInt} {
			told(t, w, c, c, budget, star.Result{Path: []api.Cell{c}, Settled: 1}, api.OK)
		}
		told(t, w, c, c, 0, star.Result{}, api.ErrBudget)
	}
}

func TestLegsThroughGatesComeInTheOrderOfTheWorlds(t *testing.T) {
	// Each corner of the cluster in the middle is a cell of two gates: that with the lesser cluster comes first, above, left, right, below.
	for _, x := range []struct{ at, first, second api.Cell }{
		{api.Cell{X: 2, Y: 2}, api.Cell{X: 2, Y: 1}, api.Cell{X: 1, Y: 2}},
		{api.Cell{X: 3, Y: 2}, api.Cell{X: 3, Y: 1}, api.Cell{X: 4, Y: 2}},
		{api.Cell{X: 2, Y: 3}, api.Cell{X: 1, Y: 3}, api.Cell{X: 2, Y: 4}},
		{api.Cell{X: 3, Y: 3}, api.Cell{X: 4, Y: 3}, api.Cell{X: 3, Y: 4}},
	} {
		f := with(even(api.Size{W: 6, H: 6}, 0), 5, x.at)
		w := made(t, with(with(f, 7, x.first), 8, x.second), 2)
		legsAre(t, w, api.Cell{}, api.Cell{}, x.at, []hier.Leg{{From: x.at, To: x.first, Cost: 7}, {From: x.at, To: x.second, Cost: 8}})
		legsAre(t, w, api.Cell{}, api.Cell{}, x.first, []hier.Leg{{From: x.first, To: x.at, Cost: 5}})
		legsAre(t, w, api.Cell{}, api.Cell{}, x.second, []hier.Leg{{From: x.second, To: x.at, Cost: 5}})
	}
	// Legs within the cluster come first, also to cells that lie behind those that gates lead to.
	for _, s := range []api.Size{{W: 1, H: 5}, {W: 5, H: 1}} {
		w, c := made(t, even(s, 2), 2), all(s)
		legsAre(t, w, c[0], c[4], c[2], []hier.Leg{{From: c[2], To: c[3], Cost: 2}, {From: c[2], To: c[1], Cost: 2}})
		legsAre(t, w, c[0], c[4], c[4], []hier.Leg{{From: c[4], To: c[3], Cost: 2}})
		legsAre(t, w, c[0], c[4], c[0], []hier.Leg{{From: c[0], To: c[1], Cost: 2}})
	}
}

func TestNodesThatAreNoGates(t *testing.T) {
	// The ends alone are nodes beside the gates' cells, and those of the one search are none of another one.
	f := even(api.Size{W: 6, H: 6}, 1)
	w := made(t, f, 3)
	inside, corner := api.Cell{X: 1, Y: 1}, api.Cell{X: 5, Y: 5}
	for _, x := range []struct {
		from, to, at api.Cell
		fault        api.Errno
	}{
		{inside, corner, inside, api.OK}, {inside, corner, corner, api.OK}, {corner, inside, inside, api.OK}, {inside, inside, inside, api.OK},
		{inside, inside, corner, api.ErrNone}, {corner, corner, inside, api.ErrNone}, {inside, corner, api.Cell{}, api.ErrNone},
		{inside, corner, api.Cell{X: 2, Y: 1}, api.OK}, {inside, corner, api.Cell{X: 2, Y: 2}, api.ErrNone},
	} {
		if l, e := hier.Legs(w, x.from, x.to, x.at); e != x.fault || (len(l) > 0) != (e == api.OK) {
			t.Error(x, l, e)
		}
	}
}

func TestWalls(t *testing.T) {
	r := rand(3)
	f := strewn(api.Size{W: 7, H: 7}, 40, few(), &r)
	w := made(t, f, 3)
	for _, from := range all(f.Size) {
		for _, to := range all(f.Size) {
			if cost(f, from) != 0 && cost(f, to) != 0 {
				continue
			}
			for _, budget := range []int{0, 1, 99, math.MaxInt} {
				told(t, w, from, to, budget, star.Result{}, api.ErrPath)
			}
			for _, budget := range below0() {
				told(t, w, from, to, budget, star.Result{}, api.ErrArg)
			}
			// A wall that is an end is a node, to which and from which no leg leads.
			p := plainOf(f, 3, from, to)
			nodesAre(t, w, from, to, p.nodes)
			for _, at := range []api.Cell{from, to} {
				legsAre(t, w, from, to, at, p.legsOf(at))
				if cost(f, at) == 0 {
					legsAre(t, w, from, to, at, nil)
				}
			}
		}
	}
}

func TestCellsAreJoinedByWayOfAnotherCluster(t *testing.T) {
	f := field(4, 2, 1, 0, 1, 1, 1, 0, 0, 1)
	told(t, made(t, f, 2), api.Cell{}, api.Cell{X: 3}, 9, star.Result{Settled: 1}, api.ErrPath)
	// Both ends are in one cluster, whose halves are joined beyond its border alone: there is no leg between them, and yet a path.
	f = field(4, 3,
		1, 1, 1, 1,
		0, 0, 0, 1,
		1, 1, 1, 1)
	w := made(t, f, 3)
	from, to := api.Cell{}, api.Cell{Y: 2}
	legsAre(t, w, from, to, from, []hier.Leg{{From: from, To: api.Cell{X: 2}, Cost: 2}})
	want := []api.Cell{{}, {X: 1}, {X: 2}, {X: 3}, {X: 3, Y: 1}, {X: 3, Y: 2}, {X: 2, Y: 2}, {X: 1, Y: 2}, {Y: 2}}
	told(t, w, from, to, 6, star.Result{Path: want, Cost: 8, Settled: 6}, api.OK)
	told(t, w, from, to, 5, star.Result{Settled: 5}, api.ErrBudget)
}

func TestAWayAboutMayCostLess(t *testing.T) {
	// The leg within the cluster is dear: the path leaves the cluster and comes back.
	f := field(3, 3, 1, 1, 1, 9, 0, 1, 1, 1, 1)
	w := made(t, f, 2)
	p := plainOf(f, 2, api.Cell{}, api.Cell{Y: 2})
	findIs(t, w, p)
	told(t, w, api.Cell{}, api.Cell{Y: 2}, 99, star.Result{Path: []api.Cell{{}, {X: 1}, {X: 2}, {X: 2, Y: 1}, {X: 2, Y: 2}, {X: 1, Y: 2}, {Y: 2}}, Cost: 6, Settled: 7}, api.OK)
}

func TestOfTheSameGTheFirstOneStays(t *testing.T) {
	// Two paths cost the same: a node keeps where it came from.
	f := even(api.Size{W: 4, H: 4}, 1)
	w := made(t, f, 2)
	p := plainOf(f, 2, api.Cell{}, api.Cell{X: 2, Y: 2})
	want, fault := p.find(99)
	told(t, w, p.from, p.to, 99, want, fault)
	if !slices.Equal(want.Path, []api.Cell{{}, {X: 1}, {X: 2}, {X: 2, Y: 1}, {X: 2, Y: 2}}) {
		t.Error(want)
	}
}

// snake is a field with one way, to and fro, row by row; its ends.
func snake(s api.Size, cost uint16) (api.Field, api.Cell, api.Cell) {
	f := even(s, cost)
	last := api.Cell{}
	for y := range s.H {
		if y%2 == 0 {
			last = api.Cell{X: s.W - 1 - last.X, Y: y}
			continue
		}
		for x := range s.W {
			if x != last.X {
				f.Cost[y*s.W+x] = 0
			}
		}
		last.Y = y
	}
	return f, api.Cell{}, last
}

func TestTheGreatestFields(t *testing.T) {
	for _, side := range []int{2, 7, 16} {
		f, from, to := snake(api.Size{W: 256, H: 256}, 65535)
		w := made(t, f, side)
		r, e := hier.Find(w, from, to, api.MaxBudget)
		if n, fault := route.Cost(f, r.Path); e != api.OK || fault != api.OK || r.Cost != n || n != 65535*uint64(len(r.Path)-1) || len(r.Path) < 256*128 {
			t.Error(side, e, fault, r.Cost, n, r.Settled, len(r.Path))
		}
		told(t, w, from, to, r.Settled, r, api.OK)
		told(t, w, from, to, r.Settled-1, star.Result{Settled: r.Settled - 1}, api.ErrBudget)
		// With a wall in its middle all nodes ahead of it are settled.
		shut := with(f, 0, api.Cell{X: 128, Y: 128})
		if r, e := hier.Find(made(t, shut, side), from, to, api.MaxBudget); e != api.ErrPath || r.Path != nil || r.Cost != 0 || r.Settled < 128*128/side {
			t.Error(side, r, e)
		}
	}
	f := even(api.Size{W: 256, H: 256}, 1)
	from, to := api.Cell{}, api.Cell{X: 255, Y: 255}
	for _, side := range []int{2, 16} {
		w := made(t, f, side)
		r, e := hier.Find(w, from, to, api.MaxBudget)
		if fault := route.Check(f, r.Path); e != api.OK || fault != api.OK || r.Cost != uint64(len(r.Path)-1) || r.Path[0] != from || r.Path[len(r.Path)-1] != to {
			t.Error(side, e, fault, r.Cost, r.Settled)
		}
		nodesAre(t, w, from, to, plainOf(f, side, from, to).nodes)
	}
}

func TestAGreaterField(t *testing.T) {
	r := rand(4)
	f := strewn(api.Size{W: 90, H: 70}, 20, many(), &r)
	for _, side := range []int{9, 16} {
		w := made(t, f, side)
		for range 4 {
			p := plainOf(f, side, r.cell(f.Size), r.cell(f.Size))
			want, fault := p.find(api.MaxBudget)
			told(t, w, p.from, p.to, api.MaxBudget, want, fault)
		}
	}
}

// The order of errors

func TestANilWorld(t *testing.T) {
	for _, c := range append(off(api.Size{}), api.Cell{}) {
		for _, budget := range append(below0(), 0, 1) {
			refused(t, nil, c, c, c, budget, api.ErrNil)
			refused(t, nil, api.Cell{}, c, api.Cell{}, budget, api.ErrNil)
		}
	}
}

func TestCellsOffTheMap(t *testing.T) {
	for _, f := range []api.Field{even(api.Size{W: 5, H: 3}, 1), even(api.Size{W: 5, H: 3}, 0), even(api.Size{W: 1, H: 1}, 1), even(api.Size{W: 256, H: 256}, 1)} {
		w := made(t, f, 2)
		for _, c := range off(f.Size) {
			for _, budget := range append(below0(), 0, 9) {
				refused(t, w, c, api.Cell{}, api.Cell{}, budget, api.ErrRange)
				refused(t, w, api.Cell{}, c, api.Cell{}, budget, api.ErrRange)
				refused(t, w, c, c, c, budget, api.ErrRange)
			}
			if l, e := hier.Legs(w, api.Cell{}, api.Cell{}, c); l != nil || e != api.ErrRange {
				t.Error(c, l, e)
			}
		}
	}
}

func TestABudgetBelow0(t *testing.T) {
	for _, f := range []api.Field{even(api.Size{W: 5, H: 3}, 1), even(api.Size{W: 5, H: 3}, 0)} {
		w := made(t, f, 2)
		for _, budget := range below0() {
			told(t, w, api.Cell{}, api.Cell{X: 4, Y: 2}, budget, star.Result{}, api.ErrArg)
			told(t, w, api.Cell{}, api.Cell{}, budget, star.Result{}, api.ErrArg)
		}
	}
}

// P15.3

// follows fails, if a path is none, or costs another number than it should, or more than the least; or if there is one where there is no way, or none where there is one.
func follows(t *testing.T, w *redo.World, from, to api.Cell, far uint64) {
	t.Helper()
	f := w.Field()
	nodes, _ := hier.Nodes(w, from, to)
	r, e := hier.Find(w, from, to, len(nodes))
	free, fault := star.Find(f, from, to, len(f.Cost))
	if e != fault || (e == api.OK) != (far != sat.Inf) {
		t.Fatalf("%v, %v: from %v to %v: %v, %v, star tells %v", f, w.Parts(), from, to, r, e, fault)
	}
	if e != api.OK {
		return
	}
	if n, fault := route.Cost(f, r.Path); fault != api.OK || n != r.Cost || r.Cost != far || r.Cost < free.Cost || r.Path[0] != from || r.Path[len(r.Path)-1] != to {
		t.Fatalf("%v, %v: from %v to %v: %v costs %v, %v; the least is %v, star's %v", f, w.Parts(), from, to, r, n, fault, far, free.Cost)
	}
	crosses := w.Gates()
	for i, c := range r.Path[1:] {
		a, _ := w.Parts().Of(r.Path[i])
		b, _ := w.Parts().Of(c)
		if a != b && !slices.Contains(crosses, gate.Gate{A: r.Path[i], B: c}) && !slices.Contains(crosses, gate.Gate{A: c, B: r.Path[i]}) {
			t.Fatalf("%v, %v: %v goes from %v to %v by no gate", f, w.Parts(), r.Path, r.Path[i], c)
		}
	}
}

func TestAPathCostsLeast(t *testing.T) {
	some(func(f api.Field, side int, r *rand) {
		w := made(t, f, side)
		for range 3 {
			from := r.cell(f.Size)
			far := least(f, side, from)
			for range 4 {
				to := r.cell(f.Size)
				follows(t, w, from, to, far[to.Y*f.Size.W+to.X])
			}
		}
	})
}

func TestAPathCostsLeastOnSmallFields(t *testing.T) {
	each(api.Size{W: 4, H: 2}, []uint16{0, 1, 4}, func(f api.Field) {
		w := made(t, f, 2)
		from := api.Cell{Y: 1}
		far := least(f, 2, from)
		for _, to := range []api.Cell{{}, {X: 1}, {X: 3}, {X: 3, Y: 1}} {
			follows(t, w, from, to, far[to.Y*4+to.X])
		}
	})
}

func TestBudgets(t *testing.T) {
	some(func(f api.Field, side int, r *rand) {
		w := made(t, f, side)
		from, to := r.cell(f.Size), r.cell(f.Size)
		want, fault := hier.Find(w, from, to, api.MaxBudget)
		if fault == api.ErrPath && want.Settled == 0 {
			return // one is a wall
		}
		for budget := range want.Settled {
			told(t, w, from, to, budget, star.Result{Settled: budget}, api.ErrBudget)
		}
		for _, more := range []int{0, 1, 2, 1000} {
			told(t, w, from, to, want.Settled+more, want, fault)
		}
	})
}

func TestAWorldThatWasUpdatedIsAsANewOne(t *testing.T) {
	r := rand(7)
	for _, side := range []int{2, 3, 5} {
		s := api.Size{W: 9, H: 8}
		f := strewn(s, 15, few(), &r)
		w := made(t, f, side)
		for range 30 {
			c := r.cell(s)
			f = with(f, []uint16{0, 1, 7}[r.below(3)], c)
			if _, e := w.Update(f, []api.Cell{c}); e != api.OK {
				t.Fatal(e)
			}
			p := plainOf(f, side, r.cell(s), r.cell(s))
			netIs(t, w, p)
			want, fault := p.find(api.MaxBudget)
			told(t, w, p.from, p.to, api.MaxBudget, want, fault)
		}
	}
}

// The chapter's example

func TestExample(t *testing.T) {
	f := even(api.Size{W: 4, H: 2}, 1)
	w := made(t, f, 2)
	from, to := api.Cell{Y: 1}, api.Cell{X: 3, Y: 1}
	nodesAre(t, w, from, to, []api.Cell{{X: 1}, {X: 2}, from, to})
	told(t, w, from, to, 4, star.Result{Path: []api.Cell{from, {X: 1, Y: 1}, {X: 1}, {X: 2}, {X: 3}, to}, Cost: 5, Settled: 4}, api.OK)
	told(t, w, from, to, 3, star.Result{Settled: 3}, api.ErrBudget)
	if r, e := star.Find(f, from, to, 8); e != api.OK || r.Cost != 3 {
		t.Error(r, e)
	}
}

// Rules that hold everywhere

func TestAWorldStaysAsItIs(t *testing.T) {
	some(func(f api.Field, side int, r *rand) {
		w := made(t, f, side)
		was := w.Clone()
		from, to := r.cell(f.Size), r.cell(f.Size)
		one, _ := hier.Find(w, from, to, api.MaxBudget)
		nodes, _ := hier.Nodes(w, from, to)
		for _, at := range nodes[:min(len(nodes), 5)] {
			legs, _ := hier.Legs(w, from, to, at)
			spoil(legs, hier.Leg{Cost: 7})
		}
		spoil(nodes, api.Cell{X: 7})
		spoil(one.Path, api.Cell{X: 7})
		if !w.Same(was) {
			t.Fatal("a world was written into")
		}
	})
}

// spoil writes over all of a list, also behind its length.
func spoil[T any](l []T, with T) {
	for i := range l[:cap(l)] {
		l[:cap(l)][i] = with
	}
}

func TestAnswersShareNothing(t *testing.T) {
	r := rand(9)
	from, to := api.Cell{X: 1, Y: 1}, api.Cell{X: 10, Y: 7}
	f := with(strewn(api.Size{W: 12, H: 9}, 10, few(), &r), 1, from, to)
	w, p := made(t, f, 4), plainOf(f, 4, from, to)
	want, fault := p.find(999)
	for range 2 {
		one, _ := hier.Find(w, p.from, p.to, 999)
		two, _ := hier.Find(w, p.from, p.to, 999)
		spoil(one.Path, api.Cell{X: 7})
		if !same(two, want) || fault != api.OK {
			t.Error(two, fault)
		}
		l, _ := hier.Legs(w, p.from, p.to, p.from)
		k, _ := hier.Nodes(w, p.from, p.to)
		netIs(t, w, p)
		spoil(l, hier.Leg{Cost: 7})
		spoil(k, api.Cell{X: 7})
		netIs(t, w, p)
	}
}

func TestAnything(t *testing.T) {
	numbers := []int{math.MinInt, -1 << 32, -1, 0, 1, 4, 5, 255, 256, 1 << 32, math.MaxInt}
	worlds := []*redo.World{nil, made(t, even(api.Size{W: 1, H: 1}, 1), 2), made(t, even(api.Size{W: 5, H: 5}, 0), 2), made(t, even(api.Size{W: 33, H: 40}, 1), 16)}
	for _, w := range worlds {
		for _, x := range numbers {
			for _, y := range numbers {
				c := api.Cell{X: x, Y: y}
				for _, d := range []api.Cell{{}, c, {X: y, Y: x}, {X: x}, {Y: y}} {
					hier.Nodes(w, c, d)
					hier.Legs(w, d, d, c)
					hier.Legs(w, c, d, api.Cell{X: y, Y: y})
					for _, budget := range numbers {
						hier.Find(w, c, d, budget)
					}
				}
			}
		}
	}
}
