package redo_test

import (
	"math"
	"slices"
	"testing"

	"gloaming/api"
	"gloaming/gate"
	"gloaming/inner"
	"gloaming/part"
	"gloaming/redo"
	"gloaming/sat"
)

const inf = uint64(sat.Inf)

// wrongFields are fields that are not right, each with grid.Check's error.
func wrongFields() map[api.Errno][]api.Field {
	l := map[api.Errno][]api.Field{}
	for _, s := range []api.Size{{}, {W: 0, H: 1}, {W: 1, H: 0}, {W: 257, H: 1}, {W: 1, H: 257}, {W: -1, H: -1}, {W: 1 << 32, H: 1 << 32}, {W: math.MaxInt, H: math.MaxInt}, {W: math.MinInt, H: math.MinInt}} {
		for _, n := range []int{0, 1, 257} {
			l[api.ErrRange] = append(l[api.ErrRange], api.Field{Size: s, Cost: make([]uint16, n)})
		}
	}
	for _, s := range []api.Size{{W: 1, H: 1}, {W: 5, H: 3}, {W: 256, H: 256}} {
		for _, n := range []int{0, s.W*s.H - 1, s.W*s.H + 1} {
			l[api.ErrLong] = append(l[api.ErrLong], api.Field{Size: s, Cost: make([]uint16, n)})
		}
	}
	return l
}

// wrongSides are sides that no cluster may have.
func wrongSides() []int {
	return []int{0, 1, -1, -2, 17, 32, 1 << 32, 1<<32 + 2, math.MaxInt, math.MinInt}
}

// noIDs are numbers of no cluster, of so many.
func noIDs(count int) []int {
	return []int{-1, -2, -count, count, count + 1, 2 * count, 1 << 32, -1 << 32, math.MaxInt, math.MinInt}
}

// off are cells just off a map, and far from it; some would be on it, if numbers went round.
func off(s api.Size) []api.Cell {
	l := []api.Cell{{X: -1}, {Y: -1}, {X: -1, Y: -1}, {X: s.W}, {Y: s.H}, {X: s.W, Y: s.H}, {X: s.W - 1, Y: s.H}, {X: s.W, Y: s.H - 1}, {X: -1, Y: 1}}
	for _, n := range []int{math.MaxInt, math.MinInt, 1 << 32, -1 << 32} {
		l = append(l, api.Cell{X: n}, api.Cell{Y: n}, api.Cell{X: n, Y: n})
	}
	return l
}

// rand is numbers without a plain rule, others by each seed.
type rand uint64

// below is the next one, from 0 to n less 1.
func (r *rand) below(n int) int {
	*r = *r*6364136223846793005 + 1442695040888963407
	return int(uint64(*r) >> 33 % uint64(n))
}

// even is a field of one cost.
func even(s api.Size, cost uint16) api.Field {
	return api.Field{Size: s, Cost: slices.Repeat([]uint16{cost}, s.W*s.H)}
}

// strewn is a field of which walls in 100 cells are walls.
func strewn(s api.Size, walls int, r *rand) api.Field {
	f := even(s, 0)
	for i := range f.Cost {
		f.Cost[i] = anyCost(walls, r)
	}
	return f
}

// anyCost is a cost that is a wall walls times in 100.
func anyCost(walls int, r *rand) uint16 {
	if r.below(100) < walls {
		return 0
	}
	return []uint16{1, 1, 2, 7, 255, 256, 65535}[r.below(7)]
}

// same is the same field, of its own.
func same(f api.Field) api.Field {
	return api.Field{Size: f.Size, Cost: slices.Clone(f.Cost)}
}

// with is the same field, in which some cells have another cost.
func with(f api.Field, cost uint16, cells ...api.Cell) api.Field {
	g := same(f)
	for _, c := range cells {
		g.Cost[c.Y*f.Size.W+c.X] = cost
	}
	return g
}

// at is a gate.
func at(ax, ay, bx, by int) gate.Gate {
	return gate.Gate{A: api.Cell{X: ax, Y: ay}, B: api.Cell{X: bx, Y: by}}
}

// cluster is that of a cell that is on the map.
func cluster(p part.Parts, c api.Cell) int {
	row := (p.Size.W + p.Side - 1) / p.Side
	return c.Y/p.Side*row + c.X/p.Side
}

// clusters is how many there are.
func clusters(p part.Parts) int {
	return cluster(p, api.Cell{X: p.Size.W - 1, Y: p.Size.H - 1}) + 1
}

// each calls tell with all fields of a size whose cells have these costs.
func each(s api.Size, costs []uint16, tell func(f api.Field)) {
	f := even(s, costs[0])
	var fill func(i int)
	fill = func(i int) {
		if i == len(f.Cost) {
			tell(f)
			return
		}
		for _, n := range costs {
			f.Cost[i] = n
			fill(i + 1)
		}
	}
	fill(0)
}

// some calls tell with fields of many sizes, with few and with many walls, and sides.
func some(tell func(f api.Field, side, walls int, r *rand)) {
	r := rand(14)
	for _, s := range []api.Size{{W: 1, H: 1}, {W: 1, H: 9}, {W: 9, H: 1}, {W: 2, H: 7}, {W: 6, H: 6}, {W: 11, H: 7}, {W: 17, H: 16}, {W: 16, H: 33}, {W: 35, H: 34}} {
		for _, walls := range []int{0, 12, 30, 60, 100} {
			f := strewn(s, walls, &r)
			for _, side := range []int{2, 3, 5, 8, 15, 16} {
				tell(f, side, walls, &r)
			}
		}
	}
}

// plain is the world of a field, as the chapter's words say it.
type plain struct {
	field  api.Field
	parts  part.Parts
	gates  []gate.Gate
	tables []inner.Table
}

// plainWorld is made anew of all gates and all tables.
func plainWorld(t *testing.T, f api.Field, side int) plain {
	t.Helper()
	w := plain{field: same(f), parts: part.Parts{Size: f.Size, Side: side}}
	var e api.Errno
	if w.gates, e = gate.Of(f, w.parts); e != api.OK {
		t.Fatal(e)
	}
	// A cluster's gates are picked out first, as there are many on a great map.
	own := make([][]gate.Gate, clusters(w.parts))
	for _, g := range w.gates {
		a, b := cluster(w.parts, g.A), cluster(w.parts, g.B)
		own[a], own[b] = append(own[a], g), append(own[b], g)
	}
	for id := range own {
		cells, _ := gate.Cells(w.parts, own[id], id)
		x, e := inner.Of(f, w.parts, id, cells)
		if e != api.OK {
			t.Fatal(e)
		}
		w.tables = append(w.tables, x)
	}
	return w
}

// is fails, if a world is another one than the chapter's words say.
func is(t *testing.T, w *redo.World, want plain) {
	t.Helper()
	if f := w.Field(); f.Size != want.field.Size || !slices.Equal(f.Cost, want.field.Cost) {
		t.Fatalf("Field() = %v, not %v", f, want.field)
	}
	if p := w.Parts(); p != want.parts {
		t.Fatalf("Parts() = %v, not %v", p, want.parts)
	}
	if l := w.Gates(); !slices.Equal(l, want.gates) {
		t.Fatalf("%v, %v: Gates() = %v, not %v", want.field, want.parts, l, want.gates)
	}
	for id, x := range want.tables {
		if y, e := w.Table(id); e != api.OK || !sameTable(x, y) {
			t.Fatalf("%v, %v: Table(%d) = %v, %v, not %v", want.field, want.parts, id, y, e, x)
		}
	}
	if x, e := w.Table(len(want.tables)); x.Cells != nil || x.Cost != nil || e != api.ErrRange {
		t.Fatalf("%v: Table(%d) = %v, %v", want.parts, len(want.tables), x, e)
	}
}

// sameTable tells whether two tables are the same.
func sameTable(x, y inner.Table) bool {
	return slices.Equal(x.Cells, y.Cells) && slices.EqualFunc(x.Cost, y.Cost, slices.Equal[[]uint64])
}

// made is a world that has to be.
func made(t *testing.T, f api.Field, side int) *redo.World {
	t.Helper()
	w, e := redo.New(f, side)
	if w == nil || e != api.OK {
		t.Fatalf("New(%v, %d) = %v", f.Size, side, e)
	}
	return w
}

// toldOf are the clusters that an update from one world to another tells.
func toldOf(was, now plain, cells []api.Cell) []int {
	var l []int
	for id := range now.tables {
		has := slices.ContainsFunc(cells, func(c api.Cell) bool { return cluster(now.parts, c) == id })
		if has || !slices.Equal(was.tables[id].Cells, now.tables[id].Cells) {
			l = append(l, id)
		}
	}
	return l
}

// updated fails, if an update from one world to another one tells, or leaves, something else than the chapter's words say.
func updated(t *testing.T, w *redo.World, was, now plain, cells []api.Cell) {
	t.Helper()
	want := toldOf(was, now, cells)
	if l, e := w.Update(now.field, cells); e != api.OK || !slices.Equal(l, want) {
		t.Fatalf("%v, from %v to %v, %v: %v, %v, not %v", now.parts, was.field.Cost, now.field.Cost, cells, l, e, want)
	}
	is(t, w, now)
}

// refused fails, if an update is not refused so, or turns something.
func refused(t *testing.T, w *redo.World, was plain, f api.Field, cells []api.Cell, fault api.Errno) {
	t.Helper()
	if l, e := w.Update(f, cells); l != nil || e != fault {
		t.Fatalf("%v, from %v to %v, %v: %v, %v, not %v", was.parts, was.field.Size, f.Size, cells, l, e, fault)
	}
	is(t, w, was)
}

// turned are the cells whose costs are not the same.
func turned(f, g api.Field) []api.Cell {
	var l []api.Cell
	for i, n := range f.Cost {
		if n != g.Cost[i] {
			l = append(l, api.Cell{X: i % f.Size.W, Y: i / f.Size.W})
		}
	}
	return l
}

// cellsOf are all cells of a map.
func cellsOf(s api.Size) []api.Cell {
	return turned(even(s, 0), even(s, 1))
}

// step is a field of which some cells are others, most of them near one another, and these cells, mixed, with others that did not turn.
func step(f api.Field, walls int, r *rand) (api.Field, []api.Cell) {
	g := same(f)
	mid, far := api.Cell{X: r.below(f.Size.W), Y: r.below(f.Size.H)}, 1+r.below(6)
	var cells []api.Cell
	for range r.below(12) {
		c := api.Cell{X: mid.X + r.below(far), Y: mid.Y + r.below(far)}
		if r.below(10) == 0 || c.X >= f.Size.W || c.Y >= f.Size.H {
			c = api.Cell{X: r.below(f.Size.W), Y: r.below(f.Size.H)}
		}
		if r.below(4) != 0 {
			g.Cost[c.Y*f.Size.W+c.X] = anyCost(walls, r)
		}
		cells = slices.Insert(cells, r.below(len(cells)+1), c)
	}
	return g, cells
}

// P14.1

func TestAllSmallFields(t *testing.T) {
	for _, s := range []api.Size{{W: 1, H: 1}, {W: 1, H: 5}, {W: 5, H: 1}, {W: 2, H: 4}, {W: 4, H: 2}, {W: 3, H: 3}} {
		each(s, []uint16{0, 1, 3}, func(f api.Field) {
			for side := 2; side <= 4; side++ {
				is(t, made(t, f, side), plainWorld(t, f, side))
			}
		})
	}
}

func TestSomeFields(t *testing.T) {
	some(func(f api.Field, side, _ int, _ *rand) {
		is(t, made(t, f, side), plainWorld(t, f, side))
	})
}

func TestTheGreatestField(t *testing.T) {
	r := rand(256)
	for _, walls := range []int{0, 20} {
		f := strewn(api.Size{W: 256, H: 256}, walls, &r)
		for _, side := range []int{2, 3, 15, 16} {
			was := plainWorld(t, f, side)
			w := made(t, f, side)
			is(t, w, was)
			g, cells := step(f, 50, &r)
			updated(t, w, was, plainWorld(t, g, side), cells)
		}
	}
}

func TestGatesInTheirOrder(t *testing.T) {
	f := even(api.Size{W: 6, H: 6}, 1)
	w := made(t, with(f, 0, api.Cell{X: 1, Y: 2}, api.Cell{X: 3, Y: 1}), 3)
	want := []gate.Gate{at(2, 0, 3, 0), at(2, 2, 3, 2), at(0, 2, 0, 3), at(2, 2, 2, 3), at(4, 2, 4, 3), at(2, 4, 3, 4)}
	for range 20 {
		if l := w.Gates(); !slices.Equal(l, want) {
			t.Fatal(l)
		}
	}
	// Clusters one below the other alone have none to the East.
	w = made(t, even(api.Size{W: 3, H: 7}, 1), 3)
	if l := w.Gates(); !slices.Equal(l, []gate.Gate{at(1, 2, 1, 3), at(1, 5, 1, 6)}) {
		t.Fatal(l)
	}
}

func TestOneCluster(t *testing.T) {
	for _, f := range []api.Field{even(api.Size{W: 1, H: 1}, 0), even(api.Size{W: 1, H: 1}, 1), even(api.Size{W: 16, H: 16}, 1)} {
		w := made(t, f, 16)
		if l := w.Gates(); len(l) != 0 {
			t.Error(l)
		}
		if x, e := w.Table(0); e != api.OK || len(x.Cells) != 0 || len(x.Cost) != 0 {
			t.Error(x, e)
		}
	}
}

func TestFieldsThatAreNotRight(t *testing.T) {
	// The field is held against first, whatever else is wrong.
	f := even(api.Size{W: 5, H: 3}, 1)
	w, was := made(t, f, 2), plainWorld(t, f, 2)
	for fault, l := range wrongFields() {
		for _, g := range l {
			for _, side := range append(wrongSides(), 2, 16) {
				if v, e := redo.New(g, side); v != nil || e != fault {
					t.Fatalf("New(%v, %d) = %v, %v, not %v", g.Size, side, v, e, fault)
				}
			}
			for _, cells := range [][]api.Cell{nil, {{}}, {{X: -1}}, {{X: 5}}, cellsOf(f.Size)} {
				refused(t, w, was, g, cells, fault)
			}
		}
	}
}

func TestWrongSides(t *testing.T) {
	for _, f := range []api.Field{even(api.Size{W: 1, H: 1}, 1), even(api.Size{W: 5, H: 3}, 0), even(api.Size{W: 256, H: 256}, 1)} {
		for _, side := range wrongSides() {
			if w, e := redo.New(f, side); w != nil || e != api.ErrRange {
				t.Errorf("New(%v, %d) = %v, %v", f.Size, side, w, e)
			}
		}
	}
	for side := 2; side <= 16; side++ {
		made(t, even(api.Size{W: 1, H: 1}, 1), side)
	}
}

func TestTableOfNoCluster(t *testing.T) {
	for _, s := range []api.Size{{W: 1, H: 1}, {W: 5, H: 3}, {W: 256, H: 4}} {
		w := made(t, even(s, 1), 2)
		for _, id := range noIDs(clusters(w.Parts())) {
			if x, e := w.Table(id); x.Cells != nil || x.Cost != nil || e != api.ErrRange {
				t.Errorf("%v: Table(%d) = %v, %v", s, id, x, e)
			}
		}
	}
}

// P14.2

func TestUpdatesOfAllSmallFields(t *testing.T) {
	for _, x := range []struct {
		size  api.Size
		costs []uint16
	}{
		{api.Size{W: 3, H: 2}, []uint16{0, 1}},
		{api.Size{W: 2, H: 3}, []uint16{0, 1}},
		{api.Size{W: 4, H: 1}, []uint16{0, 1, 2}},
		{api.Size{W: 1, H: 4}, []uint16{0, 1, 2}},
		{api.Size{W: 1, H: 5}, []uint16{0, 1, 2}},
	} {
		var l []plain
		each(x.size, x.costs, func(f api.Field) { l = append(l, plainWorld(t, f, 2)) })
		for _, was := range l {
			w := made(t, was.field, 2)
			for _, now := range l {
				cells := turned(was.field, now.field)
				if len(cells) > 0 {
					refused(t, w, was, now.field, cells[1:], api.ErrArg)
					refused(t, w, was, now.field, nil, api.ErrArg)
				}
				updated(t, w.Clone(), was, now, cells)
			}
		}
	}
}

func TestUpdatesOfAllWallsOfFourClusters(t *testing.T) {
	s := api.Size{W: 3, H: 3}
	var l []plain
	each(s, []uint16{0, 1}, func(f api.Field) { l = append(l, plainWorld(t, f, 2)) })
	r := rand(4)
	for _, was := range l {
		w := made(t, was.field, 2)
		for range 60 {
			now := l[r.below(len(l))]
			updated(t, w, was, now, turned(was.field, now.field))
			was = now
		}
	}
}

func TestRowsOfUpdates(t *testing.T) {
	some(func(f api.Field, side, walls int, r *rand) {
		was := plainWorld(t, f, side)
		w := made(t, f, side)
		for range 12 {
			g, cells := step(was.field, walls, r)
			now := plainWorld(t, g, side)
			if l := turned(was.field, g); len(l) > 0 {
				one := l[r.below(len(l))]
				refused(t, w, was, g, slices.DeleteFunc(slices.Clone(cells), func(c api.Cell) bool { return c == one }), api.ErrArg)
			}
			refused(t, w, was, g, slices.Insert(slices.Clone(cells), r.below(len(cells)+1), api.Cell{X: f.Size.W}), api.ErrRange)
			updated(t, w, was, now, cells)
			was = now
		}
	})
}

func TestClustersBesideAreToldIfTheirGatesMove(t *testing.T) {
	f := even(api.Size{W: 9, H: 9}, 1)
	for _, x := range []struct {
		cells []api.Cell
		want  []int
	}{
		{[]api.Cell{{X: 4, Y: 4}}, []int{4}}, // it is of no gate
		{[]api.Cell{{X: 4, Y: 3}}, []int{1, 4}},
		{[]api.Cell{{X: 5, Y: 4}}, []int{4, 5}},
		{[]api.Cell{{X: 4, Y: 5}}, []int{4, 7}},
		{[]api.Cell{{X: 3, Y: 4}}, []int{3, 4}},
		{[]api.Cell{{X: 5, Y: 4}, {X: 4, Y: 5}, {X: 4, Y: 3}, {X: 3, Y: 4}}, []int{1, 3, 4, 5, 7}},
		{[]api.Cell{{X: 3, Y: 3}}, []int{4}},       // of the two pairs behind it the first one is the middle, as it was
		{[]api.Cell{{X: 5, Y: 5}}, []int{4, 5, 7}}, // of the two pairs ahead of it the first one is the middle, as it was not
		{[]api.Cell{{X: 8, Y: 8}, {X: 4, Y: 4}}, []int{4, 8}},
	} {
		w := made(t, f, 3)
		shut := with(f, 0, x.cells...)
		if l, e := w.Update(shut, x.cells); e != api.OK || !slices.Equal(l, x.want) {
			t.Error(x.cells, l, e, x.want)
		}
		is(t, w, plainWorld(t, shut, 3))
		// And back again.
		if l, e := w.Update(f, x.cells); e != api.OK || !slices.Equal(l, x.want) {
			t.Error(x.cells, l, e, x.want)
		}
		is(t, w, plainWorld(t, f, 3))
	}
}

func TestGatesMayMoveWhileTheirCellsStay(t *testing.T) {
	// Cluster 3 has one gate's cell, (2, 2), of two gates: one of these is shut, and then the other one instead.
	f := even(api.Size{W: 4, H: 4}, 1)
	w := made(t, f, 2)
	above, aside := []api.Cell{{X: 2, Y: 1}, {X: 3, Y: 1}}, []api.Cell{{X: 1, Y: 2}, {X: 1, Y: 3}}
	f = with(f, 0, above...)
	if l, e := w.Update(f, above); e != api.OK || !slices.Equal(l, []int{1}) {
		t.Error(l, e)
	}
	is(t, w, plainWorld(t, f, 2))
	f = with(with(f, 1, above...), 0, aside...)
	if l, e := w.Update(f, append(aside, above...)); e != api.OK || !slices.Equal(l, []int{1, 2}) {
		t.Error(l, e)
	}
	is(t, w, plainWorld(t, f, 2))
	if l := w.Gates(); !slices.Equal(l, []gate.Gate{at(1, 0, 2, 0), at(0, 1, 0, 2), at(2, 1, 2, 2)}) {
		t.Error(l)
	}
}

func TestCellsAnyHowOften(t *testing.T) {
	f := even(api.Size{W: 6, H: 6}, 2)
	was := plainWorld(t, f, 2)
	w := made(t, f, 2)
	for _, x := range []struct {
		cells []api.Cell
		want  []int
	}{
		{nil, nil},
		{[]api.Cell{}, nil},
		{[]api.Cell{{X: 5, Y: 5}}, []int{8}},
		{[]api.Cell{{X: 5, Y: 5}, {X: 4, Y: 4}, {}, {X: 5, Y: 4}, {}}, []int{0, 8}},
		{[]api.Cell{{X: 3, Y: 5}, {X: 3, Y: 3}, {X: 3, Y: 1}}, []int{1, 4, 7}},
		{slices.Concat(cellsOf(f.Size), cellsOf(f.Size)), []int{0, 1, 2, 3, 4, 5, 6, 7, 8}},
	} {
		if l, e := w.Update(f, x.cells); e != api.OK || !slices.Equal(l, x.want) {
			t.Error(x.cells, l, e, x.want)
		}
		is(t, w, was)
	}
}

func TestTheOrderOfErrors(t *testing.T) {
	f := even(api.Size{W: 5, H: 3}, 1)
	w, was := made(t, f, 2), plainWorld(t, f, 2)
	g := with(f, 9, api.Cell{X: 4, Y: 2})
	// Fields of other sizes, whatever the cells are, also of as many cells.
	for _, s := range []api.Size{{W: 1, H: 1}, {W: 3, H: 5}, {W: 15, H: 1}, {W: 1, H: 15}, {W: 5, H: 4}, {W: 4, H: 3}, {W: 6, H: 3}, {W: 256, H: 256}} {
		for _, cells := range [][]api.Cell{nil, {{}}, {{X: 5}}, cellsOf(f.Size), cellsOf(s)} {
			refused(t, w, was, even(s, 1), cells, api.ErrRange)
			refused(t, w, was, even(s, 9), cells, api.ErrRange)
		}
	}
	// A cell off the map is told ahead of one that turned, wherever it stands in the list.
	for _, c := range off(f.Size) {
		refused(t, w, was, f, []api.Cell{c}, api.ErrRange)
		refused(t, w, was, g, []api.Cell{c}, api.ErrRange)
		refused(t, w, was, g, []api.Cell{{X: 4, Y: 2}, c}, api.ErrRange)
		refused(t, w, was, g, []api.Cell{c, {X: 4, Y: 2}}, api.ErrRange)
		refused(t, w, was, g, []api.Cell{{}, c, {}}, api.ErrRange)
	}
	for _, cells := range [][]api.Cell{nil, {{}}, {{X: 3, Y: 2}, {X: 4, Y: 1}}} {
		refused(t, w, was, g, cells, api.ErrArg)
		refused(t, w, was, with(g, 0, api.Cell{}), cells, api.ErrArg)
	}
	updated(t, w, was, plainWorld(t, g, 2), []api.Cell{{X: 4, Y: 2}})
}

func TestAnyCellThatTurnedIsAsked(t *testing.T) {
	r := rand(6)
	f := strewn(api.Size{W: 9, H: 7}, 30, &r)
	w, was := made(t, f, 4), plainWorld(t, f, 4)
	all := cellsOf(f.Size)
	for i, c := range all {
		others := slices.Delete(slices.Clone(all), i, i+1)
		for _, cost := range []uint16{f.Cost[i] ^ 1, f.Cost[i] ^ 1<<15, f.Cost[i] + 1} {
			refused(t, w, was, with(f, cost, c), others, api.ErrArg)
		}
	}
}

func TestCostsThatAreNoWalls(t *testing.T) {
	// Gates stay where they are, and yet the tables turn: of that cluster alone.
	f := even(api.Size{W: 6, H: 2}, 1)
	w := made(t, f, 2)
	for _, x := range []struct {
		c    api.Cell
		want int
	}{{api.Cell{X: 1}, 0}, {api.Cell{X: 2}, 1}, {api.Cell{X: 3}, 1}, {api.Cell{X: 4}, 2}} {
		f = with(f, 65535, x.c)
		if l, e := w.Update(f, []api.Cell{x.c}); e != api.OK || !slices.Equal(l, []int{x.want}) {
			t.Error(x.c, l, e)
		}
		is(t, w, plainWorld(t, f, 2))
	}
	if x, e := w.Table(1); e != api.OK || !sameTable(x, inner.Table{Cells: []api.Cell{{X: 2}, {X: 3}}, Cost: [][]uint64{{0, 65535}, {65535, 0}}}) {
		t.Error(x, e)
	}
}

func TestCellsNoLongerJoined(t *testing.T) {
	f := api.Field{Size: api.Size{W: 4, H: 3}, Cost: []uint16{1, 1, 1, 1, 1, 0, 0, 1, 1, 1, 1, 1}}
	w := made(t, f, 3)
	cells := []api.Cell{{X: 2}, {X: 2, Y: 2}}
	if x, e := w.Table(0); e != api.OK || !sameTable(x, inner.Table{Cells: cells, Cost: [][]uint64{{0, 6}, {6, 0}}}) {
		t.Error(x, e)
	}
	f.Cost[4] = 0
	if l, e := w.Update(f, []api.Cell{{Y: 1}}); e != api.OK || !slices.Equal(l, []int{0}) {
		t.Error(l, e)
	}
	if x, e := w.Table(0); e != api.OK || !sameTable(x, inner.Table{Cells: cells, Cost: [][]uint64{{0, inf}, {inf, 0}}}) {
		t.Error(x, e)
	}
}

func TestOnlySomeIsBuiltAnew(t *testing.T) {
	f := even(api.Size{W: 256, H: 256}, 1)
	w := made(t, f, 2)
	c := []api.Cell{{X: 131, Y: 77}}
	whole := testing.AllocsPerRun(1, func() { redo.New(f, 2) })
	some := testing.AllocsPerRun(4, func() {
		f = with(f, 1-f.Cost[77*256+131], c[0])
		if l, e := w.Update(f, c); e != api.OK || len(l) == 0 {
			t.Error(l, e)
		}
	})
	if some > whole/100 {
		t.Errorf("an update of one cell makes %v things, a whole world %v", some, whole)
	}
}

// P14.3

// sameIs fails, if Same tells something else, one way or the other.
func sameIs(t *testing.T, v, w *redo.World, want bool) {
	t.Helper()
	if v.Same(w) != want || w.Same(v) != want {
		t.Errorf("%v and %v: Same is not %v", v.Field(), w.Field(), want)
	}
}

func TestSame(t *testing.T) {
	f := even(api.Size{W: 6, H: 2}, 1)
	w := made(t, f, 2)
	sameIs(t, w, w, true)
	sameIs(t, w, made(t, same(f), 2), true)
	// The cut alone: two gates, or one; and one cluster by two sides.
	for side := 3; side <= 16; side++ {
		sameIs(t, w, made(t, f, side), false)
	}
	sameIs(t, made(t, f, 6), made(t, f, 7), false)
	sameIs(t, made(t, f, 15), made(t, f, 16), false)
	// One cost alone, whatever it is, also where it turns no gate and no table.
	for _, c := range cellsOf(f.Size) {
		for _, cost := range []uint16{0, 2, 257, 65535} {
			sameIs(t, w, made(t, with(f, cost, c), 2), false)
		}
	}
	// The size alone.
	sameIs(t, made(t, even(api.Size{W: 2, H: 1}, 1), 2), made(t, even(api.Size{W: 1, H: 2}, 1), 2), false)
	sameIs(t, made(t, even(api.Size{W: 6, H: 2}, 0), 16), made(t, even(api.Size{W: 3, H: 4}, 0), 16), false)
}

func TestANilWorld(t *testing.T) {
	var w *redo.World
	some := made(t, even(api.Size{W: 2, H: 2}, 1), 2)
	if some.Same(nil) || w.Same(some) || w.Same(nil) {
		t.Error("a nil world is the same as one")
	}
	if v := w.Clone(); v != nil {
		t.Error(v)
	}
	if f := w.Field(); f.Size != (api.Size{}) || f.Cost != nil {
		t.Error(f)
	}
	if p := w.Parts(); p != (part.Parts{}) {
		t.Error(p)
	}
	if l := w.Gates(); len(l) != 0 {
		t.Error(l)
	}
	for _, id := range []int{0, 1, -1, math.MaxInt} {
		if x, e := w.Table(id); x.Cells != nil || x.Cost != nil || e != api.ErrNil {
			t.Error(id, x, e)
		}
	}
	// That is held against first, whatever else is wrong.
	for _, f := range []api.Field{{}, even(api.Size{W: 2, H: 2}, 1), {Size: api.Size{W: 2, H: 2}}} {
		for _, cells := range [][]api.Cell{nil, {{}}, {{X: -1}}} {
			if l, e := w.Update(f, cells); l != nil || e != api.ErrNil {
				t.Error(f, cells, l, e)
			}
		}
	}
}

func TestAClone(t *testing.T) {
	some(func(f api.Field, side, walls int, r *rand) {
		was := plainWorld(t, f, side)
		w := made(t, f, side)
		v := w.Clone()
		sameIs(t, v, w, true)
		is(t, v, was)
		g, cells := step(f, walls, r)
		now := plainWorld(t, g, side)
		// What turns the one turns nothing of the other one.
		updated(t, v, was, now, cells)
		is(t, w, was)
		sameIs(t, v, w, len(turned(f, g)) == 0)
		u := w.Clone()
		updated(t, w, was, now, cells)
		is(t, u, was)
		sameIs(t, v, w, true)
		sameIs(t, u.Clone(), u, true)
	})
}

// P14.4

func TestAWorldIsAsANewOne(t *testing.T) {
	some(func(f api.Field, side, walls int, r *rand) {
		w := made(t, f, side)
		for range 12 {
			g, cells := step(f, walls, r)
			if _, e := w.Update(g, cells); e != api.OK {
				t.Fatal(e)
			}
			sameIs(t, w, made(t, g, side), true)
			sameIs(t, w, made(t, f, side), len(turned(f, g)) == 0)
			f = g
		}
	})
}

// tables are all tables of a world.
func tables(w *redo.World) []inner.Table {
	var l []inner.Table
	for id := range clusters(w.Parts()) {
		x, _ := w.Table(id)
		l = append(l, x)
	}
	return l
}

func TestOnlyTablesThatAreToldTurn(t *testing.T) {
	some(func(f api.Field, side, walls int, r *rand) {
		w := made(t, f, side)
		for range 8 {
			was := tables(w)
			g, cells := step(f, walls, r)
			l, e := w.Update(g, cells)
			if e != api.OK {
				t.Fatal(e)
			}
			for id, x := range tables(w) {
				if !inner.Same(x, was[id]) && !slices.Contains(l, id) {
					t.Fatalf("%v, %d, %v: the table of %d turned, and %v are told", f, side, cells, id, l)
				}
			}
			f = g
		}
	})
}

func TestOfNoTurnedCostTheClustersOfCells(t *testing.T) {
	some(func(f api.Field, side, walls int, r *rand) {
		was := plainWorld(t, f, side)
		w := made(t, f, side)
		for range 4 {
			_, cells := step(f, walls, r)
			var want []int
			for _, c := range cells {
				want = append(want, cluster(was.parts, c))
			}
			slices.Sort(want)
			if l, e := w.Update(f, cells); e != api.OK || !slices.Equal(l, slices.Compact(want)) {
				t.Fatalf("%v: %v are told of %v, %v", was.parts, l, cells, e)
			}
			is(t, w, was)
		}
	})
}

func TestTwoUpdatesAreAsOne(t *testing.T) {
	some(func(f api.Field, side, walls int, r *rand) {
		w, v := made(t, f, side), made(t, f, side)
		for range 6 {
			g, first := step(f, walls, r)
			h, second := step(g, walls, r)
			if _, e := w.Update(g, first); e != api.OK {
				t.Fatal(e)
			}
			if _, e := w.Update(h, second); e != api.OK {
				t.Fatal(e)
			}
			if _, e := v.Update(h, slices.Concat(first, second)); e != api.OK {
				t.Fatal(e)
			}
			sameIs(t, w, v, true)
			is(t, v, plainWorld(t, h, side))
			f = h
		}
	})
}

// The chapter's example

func TestExample(t *testing.T) {
	f := even(api.Size{W: 6, H: 2}, 1)
	w := made(t, f, 2)
	if l := w.Gates(); !slices.Equal(l, []gate.Gate{at(1, 0, 2, 0), at(3, 0, 4, 0)}) {
		t.Error(l)
	}
	f = with(f, 0, api.Cell{X: 2})
	if l, e := w.Update(f, []api.Cell{{X: 2}}); e != api.OK || !slices.Equal(l, []int{0, 1}) {
		t.Error(l, e)
	}
	if l := w.Gates(); !slices.Equal(l, []gate.Gate{at(1, 1, 2, 1), at(3, 0, 4, 0)}) {
		t.Error(l)
	}
	f = with(f, 5, api.Cell{X: 5, Y: 1})
	if l, e := w.Update(f, []api.Cell{{X: 5, Y: 1}}); e != api.OK || !slices.Equal(l, []int{2}) {
		t.Error(l, e)
	}
	is(t, w, plainWorld(t, f, 2))
}

// Rules that hold everywhere

func TestNothingIsWrittenInto(t *testing.T) {
	r := rand(8)
	f := strewn(api.Size{W: 9, H: 8}, 20, &r)
	costs := append(slices.Clone(f.Cost), 7, 8, 9)
	f.Cost = costs[:72:75]
	was := slices.Clone(costs)
	cells := []api.Cell{{X: 8, Y: 7}, {X: 3}, {X: 3}, {}, {X: 9}, {X: 5}}
	had := slices.Clone(cells)
	w := made(t, even(f.Size, 1), 3)
	w.Update(f, cells[:3])
	w.Update(f, cells)
	w.Update(f, append(cellsOf(f.Size), cells[:4]...))
	w.Update(even(f.Size, 1), cells[:4])
	redo.New(f, 3)
	if !slices.Equal(costs, was) {
		t.Error("a field was written into")
	}
	if !slices.Equal(cells, had) {
		t.Error("cells were written into")
	}
}

// spoil writes over all of a list, also behind its length.
func spoil[T any](l []T, with T) {
	for i := range l[:cap(l)] {
		l[:cap(l)][i] = with
	}
}

// spoilAll writes over all that a world answers.
func spoilAll(w *redo.World) {
	spoil(w.Field().Cost, 9)
	spoil(w.Gates(), at(7, 7, 7, 7))
	for id := range clusters(w.Parts()) {
		x, _ := w.Table(id)
		for _, row := range x.Cost {
			spoil(row, 9)
		}
		spoil(x.Cost, nil)
		spoil(x.Cells, api.Cell{X: 7})
	}
}

func TestNothingIsShared(t *testing.T) {
	r := rand(10)
	f := strewn(api.Size{W: 11, H: 8}, 15, &r)
	was := plainWorld(t, f, 3)
	given := same(f)
	w := made(t, given, 3)
	spoil(given.Cost, 9)
	is(t, w, was)
	spoilAll(w)
	is(t, w, was)
	v := w.Clone()
	spoilAll(v)
	is(t, w, was)
	is(t, v, was)
	g, cells := step(f, 15, &r)
	now := plainWorld(t, g, 3)
	given = same(g)
	l, _ := w.Update(given, cells)
	spoil(given.Cost, 9)
	spoil(cells, api.Cell{X: 7})
	spoil(l, 7)
	is(t, w, now)
	spoilAll(w)
	is(t, w, now)
	is(t, v, was)
}

func TestAnswersShareNothing(t *testing.T) {
	f := even(api.Size{W: 9, H: 9}, 2)
	w := made(t, f, 3)
	want := plainWorld(t, f, 3)
	x, _ := w.Table(4)
	y, _ := w.Table(4)
	for i := range x.Cost {
		spoil(x.Cost[i], 7)
		for j := i + 1; j < len(x.Cost); j++ {
			if !slices.Equal(x.Cost[j], want.tables[4].Cost[j]) {
				t.Error("rows", i, j, "of one table share memory")
			}
		}
	}
	spoil(x.Cells, api.Cell{X: 7})
	if !sameTable(y, want.tables[4]) {
		t.Error("tables share memory")
	}
	a, b, g, h := w.Field(), w.Field(), w.Gates(), w.Gates()
	spoil(a.Cost, 9)
	spoil(g, at(7, 7, 7, 7))
	if !slices.Equal(b.Cost, f.Cost) || !slices.Equal(h, want.gates) {
		t.Error("answers share memory")
	}
}

func TestAnything(t *testing.T) {
	numbers := []int{math.MinInt, -1 << 32, -257, -2, -1, 0, 1, 2, 5, 6, 255, 256, 16383, 16384, 1 << 32, math.MaxInt}
	worlds := []*redo.World{nil}
	fields := []api.Field{even(api.Size{W: 1, H: 1}, 1), even(api.Size{W: 5, H: 3}, 0), even(api.Size{W: 33, H: 40}, 1)}
	for _, f := range fields {
		worlds = append(worlds, made(t, f, 2), made(t, f, 16))
	}
	for _, l := range wrongFields() {
		fields = append(fields, l...)
	}
	for _, f := range fields {
		for _, n := range numbers {
			redo.New(f, n)
		}
	}
	for _, w := range worlds {
		for _, n := range numbers {
			w.Table(n)
			for _, f := range fields {
				w.Update(f, []api.Cell{{}, {X: n, Y: -n}, {X: n}, {Y: n}})
				w.Update(f, cellsOf(w.Field().Size))
			}
		}
		for _, v := range worlds {
			w.Same(v)
		}
	}
}
