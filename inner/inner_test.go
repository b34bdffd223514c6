package inner_test

import (
	"math"
	"slices"
	"testing"

	"gloaming/api"
	"gloaming/flood"
	"gloaming/gate"
	"gloaming/inner"
	"gloaming/part"
	"gloaming/sat"
)

const inf = uint64(sat.Inf)

// wrongFields are fields that are not right, each with grid.Check's error.
func wrongFields() map[api.Errno][]api.Field {
	l := map[api.Errno][]api.Field{}
	for _, s := range []api.Size{{}, {W: 0, H: 1}, {W: 1, H: 0}, {W: 257, H: 1}, {W: 1, H: 257}, {W: -1, H: -1}, {W: 1 << 32, H: 1 << 32}, {W: math.MaxInt, H: math.MaxInt}, {W: math.MinInt, H: math.MinInt}} {
		for _, n := range []int{0, 1, 257} {
			l[api.ErrRange] = append(l[api.ErrRange], api.Field{Size: s, Cost: make([]uint16, n)})
		}
	}
	for _, s := range []api.Size{{W: 1, H: 1}, {W: 5, H: 3}, {W: 256, H: 256}} {
		for _, n := range []int{0, s.W*s.H - 1, s.W*s.H + 1} {
			l[api.ErrLong] = append(l[api.ErrLong], api.Field{Size: s, Cost: make([]uint16, n)})
		}
	}
	return l
}

// wrongSides are sides that no cluster may have.
func wrongSides() []int {
	return []int{0, 1, -1, -2, 17, 32, 1 << 32, 1<<32 + 2, math.MaxInt, math.MinInt}
}

// numbers are at, and about, all sorts of edges.
func numbers() []int {
	return []int{math.MinInt, -1 << 32, -257, -2, -1, 0, 1, 2, 5, 6, 255, 256, 16383, 16384, 1 << 32, math.MaxInt}
}

// noIDs are numbers of no cluster, of so many.
func noIDs(count int) []int {
	return []int{-1, -2, -count, count, count + 1, 2 * count, 1 << 32, -1 << 32, math.MaxInt, math.MinInt}
}

// off are cells just off a map, and far from it; some would be on it, if numbers went round.
func off(s api.Size) []api.Cell {
	l := []api.Cell{{X: -1}, {Y: -1}, {X: -1, Y: -1}, {X: s.W}, {Y: s.H}, {X: s.W, Y: s.H}, {X: s.W - 1, Y: s.H}, {X: s.W, Y: s.H - 1}, {X: -1, Y: 1}}
	for _, n := range []int{math.MaxInt, math.MinInt, 1 << 32, -1 << 32} {
		l = append(l, api.Cell{X: n}, api.Cell{Y: n}, api.Cell{X: n, Y: n})
	}
	return l
}

// rand is numbers without a plain rule, others by each seed.
type rand uint64

// below is the next one, from 0 to n less 1.
func (r *rand) below(n int) int {
	*r = *r*6364136223846793005 + 1442695040888963407
	return int(uint64(*r) >> 33 % uint64(n))
}

// even is a field of one cost.
func even(s api.Size, cost uint16) api.Field {
	return api.Field{Size: s, Cost: slices.Repeat([]uint16{cost}, s.W*s.H)}
}

// strewn is a field of which walls in 100 cells are walls.
func strewn(s api.Size, walls int, r *rand) api.Field {
	f := even(s, 0)
	for i := range f.Cost {
		if r.below(100) >= walls {
			f.Cost[i] = []uint16{1, 1, 2, 7, 255, 256, 65535}[r.below(7)]
		}
	}
	return f
}

// cost is a cell's.
func cost(f api.Field, c api.Cell) uint64 {
	return uint64(f.Cost[c.Y*f.Size.W+c.X])
}

// cluster is that of a cell that is on the map.
func cluster(p part.Parts, c api.Cell) int {
	row := (p.Size.W + p.Side - 1) / p.Side
	return c.Y/p.Side*row + c.X/p.Side
}

// clusters is how many there are.
func clusters(p part.Parts) int {
	return cluster(p, api.Cell{X: p.Size.W - 1, Y: p.Size.H - 1}) + 1
}

// in are the cells of a cluster, row by row.
func in(p part.Parts, id int) []api.Cell {
	row := (p.Size.W + p.Side - 1) / p.Side
	var l []api.Cell
	for y := id / row * p.Side; y < min((id/row+1)*p.Side, p.Size.H); y++ {
		for x := id % row * p.Side; x < min((id%row+1)*p.Side, p.Size.W); x++ {
			l = append(l, api.Cell{X: x, Y: y})
		}
	}
	return l
}

// pick are some of cells, in their order.
func pick(l []api.Cell, r *rand) []api.Cell {
	of := 1 + r.below(8)
	return slices.DeleteFunc(slices.Clone(l), func(api.Cell) bool { return r.below(8) >= of })
}

// plainFar is how far the cells of a cluster are from one, read from the chapter's words: costs come down, from cell to cell beside it, until none does any more.
func plainFar(f api.Field, p part.Parts, id int, from api.Cell) map[api.Cell]uint64 {
	far := map[api.Cell]uint64{}
	if cost(f, from) != 0 {
		far[from] = 0
	}
	l := in(p, id)
	for again := true; again; {
		again = false
		for _, c := range l {
			if cost(f, c) == 0 {
				continue
			}
			for _, d := range []api.Cell{{X: c.X - 1, Y: c.Y}, {X: c.X + 1, Y: c.Y}, {X: c.X, Y: c.Y - 1}, {X: c.X, Y: c.Y + 1}} {
				by, is := far[d]
				if had, has := far[c]; is && (!has || by+cost(f, c) < had) {
					far[c], again = by+cost(f, c), true
				}
			}
		}
	}
	for _, c := range l {
		if _, is := far[c]; !is {
			far[c] = inf
		}
	}
	return far
}

// plainTable is how far each of cells is from each.
func plainTable(f api.Field, p part.Parts, id int, cells []api.Cell) [][]uint64 {
	var l [][]uint64
	for _, from := range cells {
		far := plainFar(f, p, id, from)
		var row []uint64
		for _, to := range cells {
			row = append(row, far[to])
		}
		l = append(l, row)
	}
	return l
}

// column is the costs of a table that stand at a place of its rows.
func column(l [][]uint64, place int) []uint64 {
	var c []uint64
	for _, row := range l {
		c = append(c, row[place])
	}
	return c
}

// sameRows tells whether rows of costs are the same.
func sameRows(a, b [][]uint64) bool {
	return slices.EqualFunc(a, b, slices.Equal[[]uint64])
}

// ofIs fails, if Of tells something else.
func ofIs(t *testing.T, f api.Field, p part.Parts, id int, cells []api.Cell, want [][]uint64) {
	t.Helper()
	if x, e := inner.Of(f, p, id, cells); !slices.Equal(x.Cells, cells) || !sameRows(x.Cost, want) || e != api.OK {
		t.Fatalf("%v, %v: Of(%d, %v) = %v, %v, not %v", f, p, id, cells, x, e, want)
	}
}

// toIs fails, if To tells something else.
func toIs(t *testing.T, f api.Field, p part.Parts, id int, x inner.Table, from api.Cell, want []uint64, fault api.Errno) {
	t.Helper()
	if l, e := inner.To(f, p, id, x, from); !slices.Equal(l, want) || e != fault {
		t.Fatalf("%v, %v: To(%d, %v, %v) = %v, %v, not %v, %v", f, p, id, x, from, l, e, want, fault)
	}
}

// backIs fails, if Back tells something else.
func backIs(t *testing.T, f api.Field, p part.Parts, id int, x inner.Table, to api.Cell, want []uint64, fault api.Errno) {
	t.Helper()
	if l, e := inner.Back(f, p, id, x, to); !slices.Equal(l, want) || e != fault {
		t.Fatalf("%v, %v: Back(%d, %v, %v) = %v, %v, not %v, %v", f, p, id, x, to, l, e, want, fault)
	}
}

// refused fails, if one of the calls does not answer an error, or tells something beside it.
func refused(t *testing.T, f api.Field, p part.Parts, id int, cells []api.Cell, at api.Cell, fault api.Errno) {
	t.Helper()
	if x, e := inner.Of(f, p, id, cells); x.Cells != nil || x.Cost != nil || e != fault {
		t.Fatalf("%v, %v: Of(%d, %v) = %v, %v, not %v", f.Size, p, id, cells, x, e, fault)
	}
	x := inner.Table{Cells: cells}
	if l, e := inner.To(f, p, id, x, at); l != nil || e != fault {
		t.Fatalf("%v, %v: To(%d, %v, %v) = %v, %v, not %v", f.Size, p, id, x, at, l, e, fault)
	}
	if l, e := inner.Back(f, p, id, x, at); l != nil || e != fault {
		t.Fatalf("%v, %v: Back(%d, %v, %v) = %v, %v, not %v", f.Size, p, id, x, at, l, e, fault)
	}
}

// asTold fails, if something else than the chapter's words is told of all cells of a cluster.
func asTold(t *testing.T, f api.Field, p part.Parts, id int) {
	t.Helper()
	l := in(p, id)
	want := plainTable(f, p, id, l)
	ofIs(t, f, p, id, l, want)
	for i, c := range l {
		toIs(t, f, p, id, inner.Table{Cells: l}, c, want[i], api.OK)
		backIs(t, f, p, id, inner.Table{Cells: l}, c, column(want, i), api.OK)
	}
}

// each calls tell with all fields of a size whose cells have these costs.
func each(s api.Size, costs []uint16, tell func(f api.Field)) {
	f := even(s, costs[0])
	var fill func(i int)
	fill = func(i int) {
		if i == len(f.Cost) {
			tell(f)
			return
		}
		for _, n := range costs {
			f.Cost[i] = n
			fill(i + 1)
		}
	}
	fill(0)
}

// some calls tell with fields of many sizes, with few and with many walls, and parts of them.
func some(tell func(f api.Field, p part.Parts, r *rand)) {
	r := rand(13)
	for _, s := range []api.Size{{W: 1, H: 1}, {W: 1, H: 9}, {W: 9, H: 1}, {W: 2, H: 7}, {W: 6, H: 6}, {W: 11, H: 7}, {W: 17, H: 16}, {W: 16, H: 33}, {W: 35, H: 34}} {
		for _, walls := range []int{0, 12, 30, 60, 100} {
			f := strewn(s, walls, &r)
			for _, side := range []int{2, 3, 5, 8, 15, 16} {
				tell(f, part.Parts{Size: s, Side: side}, &r)
			}
		}
	}
}

// P13.1

func TestAllSmallFields(t *testing.T) {
	for _, s := range []api.Size{{W: 1, H: 1}, {W: 1, H: 4}, {W: 4, H: 1}, {W: 2, H: 3}, {W: 3, H: 2}} {
		each(s, []uint16{0, 1, 2, 5}, func(f api.Field) {
			for side := 2; side <= 4; side++ {
				p := part.Parts{Size: s, Side: side}
				for id := range clusters(p) {
					asTold(t, f, p, id)
				}
			}
		})
	}
}

func TestAllWallsOfASmallCluster(t *testing.T) {
	s := api.Size{W: 3, H: 4}
	each(s, []uint16{0, 1}, func(f api.Field) {
		asTold(t, f, part.Parts{Size: s, Side: 4}, 0)
	})
}

func TestSomeFields(t *testing.T) {
	some(func(f api.Field, p part.Parts, r *rand) {
		for range 2 {
			id := r.below(clusters(p))
			l := pick(in(p, id), r)
			want := plainTable(f, p, id, l)
			ofIs(t, f, p, id, l, want)
			if len(l) == 0 {
				continue
			}
			// To and back of a cell that is none of the table's.
			i := r.below(len(l))
			without := func(row []uint64) []uint64 { return slices.Delete(slices.Clone(row), i, i+1) }
			x := inner.Table{Cells: slices.Delete(slices.Clone(l), i, i+1)}
			toIs(t, f, p, id, x, l[i], without(want[i]), api.OK)
			backIs(t, f, p, id, x, l[i], without(column(want, i)), api.OK)
		}
	})
}

func TestAllCellsOfAGreatCluster(t *testing.T) {
	r := rand(16)
	f := strewn(api.Size{W: 20, H: 40}, 20, &r)
	asTold(t, f, part.Parts{Size: f.Size, Side: 16}, 2)
}

func TestTheGreatestField(t *testing.T) {
	r := rand(256)
	f := strewn(api.Size{W: 256, H: 256}, 20, &r)
	for _, side := range []int{2, 3, 15, 16} {
		p := part.Parts{Size: f.Size, Side: side}
		l, _ := gate.Of(f, p)
		for id := r.below(40); id < clusters(p); id += 1 + r.below(400) {
			cells, _ := gate.Cells(p, l, id)
			ofIs(t, f, p, id, cells, plainTable(f, p, id, cells))
		}
		last := clusters(p) - 1
		asTold(t, f, p, last)
	}
}

func TestTheGreatestCosts(t *testing.T) {
	// A way to and fro through 16 rows, each cell of the greatest cost: 144 cells.
	f := even(api.Size{W: 16, H: 16}, 65535)
	for y := 1; y < 16; y += 2 {
		for x := range 16 {
			if x != 15*(1-y/2%2) {
				f.Cost[16*y+x] = 0
			}
		}
	}
	p := part.Parts{Size: f.Size, Side: 16}
	ends := []api.Cell{{}, {Y: 14}, {X: 15, Y: 15}}
	// There are 8 rows of 16 cells, 7 cells between them, and of the last row one cell more, at its left end: so (15, 15) is a wall.
	n := uint64(8*16 + 7 - 1)
	ofIs(t, f, p, 0, ends, [][]uint64{{0, 65535 * n, inf}, {65535 * n, 0, inf}, {inf, inf, inf}})
	toIs(t, f, p, 0, inner.Table{Cells: ends}, api.Cell{Y: 15}, []uint64{65535 * (n + 1), 65535, inf}, api.OK)
	backIs(t, f, p, 0, inner.Table{Cells: ends}, api.Cell{Y: 15}, []uint64{65535 * (n + 1), 65535, inf}, api.OK)
}

func TestWaysStayWithinTheCluster(t *testing.T) {
	// On the map it would cost 4 to come from (0, 0) to (0, 2), by the second cluster; and there is a cell that is reached only so.
	f := api.Field{Size: api.Size{W: 4, H: 3}, Cost: []uint16{1, 1, 1, 1, 9, 9, 1, 0, 1, 0, 1, 1}}
	p := part.Parts{Size: f.Size, Side: 2}
	ofIs(t, f, p, 0, []api.Cell{{}, {X: 1}, {Y: 1}}, [][]uint64{{0, 1, 9}, {1, 0, 10}, {1, 2, 0}})
	ofIs(t, f, p, 1, []api.Cell{{X: 3}, {X: 2, Y: 1}}, [][]uint64{{0, 2}, {2, 0}})
	ofIs(t, f, p, 2, []api.Cell{{Y: 2}, {X: 1, Y: 2}}, [][]uint64{{0, inf}, {inf, inf}})
	toIs(t, f, p, 1, inner.Table{Cells: []api.Cell{{X: 3}, {X: 3, Y: 1}}}, api.Cell{X: 2, Y: 1}, []uint64{2, inf}, api.OK)
}

func TestNoCells(t *testing.T) {
	for _, f := range []api.Field{even(api.Size{W: 1, H: 1}, 0), even(api.Size{W: 5, H: 3}, 1)} {
		p := part.Parts{Size: f.Size, Side: 2}
		for id := range clusters(p) {
			c := in(p, id)[0]
			for _, none := range [][]api.Cell{nil, {}} {
				ofIs(t, f, p, id, none, nil)
				toIs(t, f, p, id, inner.Table{Cells: none}, c, nil, api.OK)
				backIs(t, f, p, id, inner.Table{Cells: none}, c, nil, api.OK)
			}
		}
	}
}

func TestFieldsThatAreNotRight(t *testing.T) {
	// The field is held against first, whatever else is wrong.
	for fault, l := range wrongFields() {
		for _, f := range l {
			for _, p := range []part.Parts{{Size: f.Size, Side: 2}, {Size: f.Size, Side: 1}, {Size: api.Size{W: 5, H: 3}, Side: 2}, {}} {
				for _, id := range []int{0, 1, -1, 9} {
					for _, cells := range [][]api.Cell{nil, {{}}, {{X: 1}, {}}, {{X: 300}}} {
						refused(t, f, p, id, cells, api.Cell{}, fault)
						refused(t, f, p, id, cells, api.Cell{X: -1}, fault)
					}
				}
			}
		}
	}
}

func TestPartsOfAnotherSize(t *testing.T) {
	// They are held against before the clusters and the cells are.
	f := even(api.Size{W: 5, H: 3}, 1)
	for _, s := range []api.Size{{}, {W: 5, H: 4}, {W: 4, H: 3}, {W: 6, H: 3}, {W: 3, H: 5}, {W: 15, H: 1}, {W: 256, H: 256}, {W: 257, H: 3}, {W: -5, H: -3}} {
		for _, side := range append(wrongSides(), 2, 16) {
			for _, id := range numbers() {
				for _, cells := range [][]api.Cell{nil, {{}}, {{X: 1}, {}}, {{X: 300}}} {
					refused(t, f, part.Parts{Size: s, Side: side}, id, cells, api.Cell{X: 9}, api.ErrArg)
				}
			}
		}
	}
}

func TestPartsOfAWrongSide(t *testing.T) {
	for _, f := range []api.Field{even(api.Size{W: 1, H: 1}, 1), even(api.Size{W: 5, H: 3}, 1), even(api.Size{W: 40, H: 40}, 0)} {
		for _, side := range wrongSides() {
			for _, id := range numbers() {
				for _, cells := range [][]api.Cell{nil, {{}}, {{X: 1}, {}}, {{X: 300}}} {
					refused(t, f, part.Parts{Size: f.Size, Side: side}, id, cells, api.Cell{X: -1}, api.ErrArg)
				}
			}
		}
	}
}

func TestNoCluster(t *testing.T) {
	for _, s := range []api.Size{{W: 1, H: 1}, {W: 5, H: 3}, {W: 256, H: 4}} {
		f := even(s, 1)
		p := part.Parts{Size: s, Side: 2}
		for _, id := range noIDs(clusters(p)) {
			// The cluster is held against before the cells are: these do not rise.
			for _, cells := range [][]api.Cell{nil, {{}}, {{}, {}}, {{X: 300}}} {
				refused(t, f, p, id, cells, api.Cell{}, api.ErrRange)
				refused(t, f, p, id, cells, api.Cell{X: -1}, api.ErrRange)
			}
		}
	}
}

func TestCellsThatAreNotInTheCluster(t *testing.T) {
	f := even(api.Size{W: 7, H: 7}, 1)
	p := part.Parts{Size: f.Size, Side: 3}
	for id := range clusters(p) {
		own := in(p, id)
		wrong := off(f.Size)
		for other := range clusters(p) {
			if other != id {
				wrong = append(wrong, in(p, other)...)
			}
		}
		for _, c := range wrong {
			refused(t, f, p, id, []api.Cell{c}, own[0], api.ErrRange)
			refused(t, f, p, id, append(slices.Clone(own), c), own[0], api.ErrRange)
			refused(t, f, p, id, append([]api.Cell{c}, own...), own[0], api.ErrRange)
			refused(t, f, p, id, []api.Cell{c, c}, own[0], api.ErrRange)
		}
	}
}

func TestCellsThatDoNotRise(t *testing.T) {
	f := even(api.Size{W: 6, H: 6}, 1)
	p := part.Parts{Size: f.Size, Side: 3}
	for id := range clusters(p) {
		l := in(p, id)
		for i, c := range l {
			for j, d := range l {
				if i < j {
					x, e := inner.Of(f, p, id, []api.Cell{c, d})
					if e != api.OK || len(x.Cost) != 2 {
						t.Fatal(id, c, d, x, e)
					}
					continue
				}
				refused(t, f, p, id, []api.Cell{c, d}, l[0], api.ErrForm)
				if i > 0 && i < 8 {
					refused(t, f, p, id, []api.Cell{l[0], c, l[8], d}, l[0], api.ErrForm)
				}
			}
		}
	}
}

func TestTheFirstWrongCellIsTold(t *testing.T) {
	f := even(api.Size{W: 6, H: 6}, 1)
	p := part.Parts{Size: f.Size, Side: 3}
	for _, x := range []struct {
		cells []api.Cell
		fault api.Errno
	}{
		{[]api.Cell{{X: 1}, {}, {X: 3}}, api.ErrForm},
		{[]api.Cell{{X: 1}, {X: 3}, {}}, api.ErrRange},
		{[]api.Cell{{X: 1}, {}, {X: -1}}, api.ErrForm},
		// A cell that neither is in the cluster nor rises: that it is not in the cluster is named first.
		{[]api.Cell{{X: 2, Y: 2}, {X: 3}}, api.ErrRange},
		{[]api.Cell{{X: 1}, {X: -1}, {}}, api.ErrRange},
		{[]api.Cell{{}, {X: 1}, {X: 2}, {X: 2}, {X: 9}}, api.ErrForm},
		{[]api.Cell{{}, {X: 1}, {X: 2}, {X: 9}, {X: 9}}, api.ErrRange},
	} {
		for _, at := range []api.Cell{{}, {X: 3}, {X: -1}} {
			refused(t, f, p, 0, x.cells, at, x.fault)
		}
	}
}

// P13.2

func TestToWhatIsNotInTheCluster(t *testing.T) {
	f := even(api.Size{W: 7, H: 7}, 1)
	p := part.Parts{Size: f.Size, Side: 3}
	for id := range clusters(p) {
		wrong := off(f.Size)
		for other := range clusters(p) {
			if other != id {
				wrong = append(wrong, in(p, other)...)
			}
		}
		x, _ := inner.Of(f, p, id, in(p, id))
		for _, c := range wrong {
			toIs(t, f, p, id, x, c, nil, api.ErrRange)
			backIs(t, f, p, id, x, c, nil, api.ErrRange)
			toIs(t, f, p, id, inner.Table{}, c, nil, api.ErrRange)
			backIs(t, f, p, id, inner.Table{}, c, nil, api.ErrRange)
		}
	}
}

func TestCostsAreNotAsked(t *testing.T) {
	f := api.Field{Size: api.Size{W: 3, H: 2}, Cost: []uint16{1, 2, 3, 4, 5, 6}}
	p := part.Parts{Size: f.Size, Side: 3}
	cells := []api.Cell{{X: 1}, {Y: 1}, {X: 2, Y: 1}}
	for _, cost := range [][][]uint64{nil, {}, {{1}}, {{9, 9, 9}, {9, 9, 9}, {9, 9, 9}}, {nil, nil, nil, nil}, {{inf}, nil, {1, 2, 3, 4, 5}}} {
		x := inner.Table{Cells: cells, Cost: cost}
		toIs(t, f, p, 0, x, api.Cell{}, []uint64{2, 4, 11}, api.OK)
		backIs(t, f, p, 0, x, api.Cell{}, []uint64{1, 1, 6}, api.OK)
	}
}

func TestWalls(t *testing.T) {
	f := api.Field{Size: api.Size{W: 3, H: 2}, Cost: []uint16{1, 0, 3, 4, 0, 6}}
	p := part.Parts{Size: f.Size, Side: 3}
	x := inner.Table{Cells: []api.Cell{{}, {X: 1}, {X: 2}, {Y: 1}}}
	toIs(t, f, p, 0, x, api.Cell{X: 1}, []uint64{inf, inf, inf, inf}, api.OK)
	backIs(t, f, p, 0, x, api.Cell{X: 1}, []uint64{inf, inf, inf, inf}, api.OK)
	toIs(t, f, p, 0, x, api.Cell{Y: 1}, []uint64{1, inf, inf, 0}, api.OK)
	backIs(t, f, p, 0, x, api.Cell{Y: 1}, []uint64{4, inf, inf, 0}, api.OK)
}

func TestSame(t *testing.T) {
	table := func() inner.Table {
		return inner.Table{Cells: []api.Cell{{X: 1}, {Y: 1}}, Cost: [][]uint64{{0, 2}, {3, inf}}}
	}
	x := table()
	if !inner.Same(x, table()) || !inner.Same(x, x) {
		t.Error("the same table is another one")
	}
	for i, turn := range []func(x *inner.Table){
		func(x *inner.Table) { x.Cells[0].X = 0 },
		func(x *inner.Table) { x.Cells[1].Y = 2 },
		func(x *inner.Table) { x.Cells[1].X = 1 },
		func(x *inner.Table) { x.Cells = x.Cells[:1] },
		func(x *inner.Table) { x.Cells = append(x.Cells, api.Cell{}) },
		func(x *inner.Table) { x.Cells = nil },
		func(x *inner.Table) { slices.Reverse(x.Cells) },
		func(x *inner.Table) { x.Cost[0][0] = 1 },
		func(x *inner.Table) { x.Cost[1][1] = inf - 1 },
		func(x *inner.Table) { x.Cost[1][0] = 3 + 1<<32 },
		func(x *inner.Table) { x.Cost[0] = x.Cost[0][:1] },
		func(x *inner.Table) { x.Cost[1] = append(x.Cost[1], 0) },
		func(x *inner.Table) { x.Cost[1] = nil },
		func(x *inner.Table) { x.Cost = x.Cost[:1] },
		func(x *inner.Table) { x.Cost = append(x.Cost, nil) },
		func(x *inner.Table) { x.Cost = nil },
		func(x *inner.Table) { slices.Reverse(x.Cost) },
		func(x *inner.Table) { x.Cost = [][]uint64{{0}, {2, 3, inf}} },
		func(x *inner.Table) { *x = inner.Table{} },
	} {
		y := table()
		turn(&y)
		if inner.Same(x, y) || inner.Same(y, x) {
			t.Error(i, "another table is the same", y)
		}
		if !inner.Same(y, y) {
			t.Error(i, "a table is not the same as itself", y)
		}
	}
}

func TestSameOfNothing(t *testing.T) {
	for _, x := range []inner.Table{{}, {Cells: []api.Cell{}}, {Cost: [][]uint64{}}} {
		if !inner.Same(x, inner.Table{}) || !inner.Same(inner.Table{}, x) {
			t.Error(x)
		}
	}
	a, b := inner.Table{Cost: [][]uint64{nil}}, inner.Table{Cost: [][]uint64{{}}}
	if !inner.Same(a, b) || inner.Same(a, inner.Table{}) {
		t.Error("a row without costs")
	}
}

// P13.3

func TestFromItself(t *testing.T) {
	some(func(f api.Field, p part.Parts, r *rand) {
		id := r.below(clusters(p))
		x, _ := inner.Of(f, p, id, in(p, id))
		for i, c := range x.Cells {
			want := uint64(0)
			if cost(f, c) == 0 {
				want = inf
			}
			if x.Cost[i][i] != want {
				t.Fatal(f, p, c, x.Cost[i][i])
			}
		}
	})
}

func TestByWayOfAThirdCell(t *testing.T) {
	some(func(f api.Field, p part.Parts, r *rand) {
		id := r.below(clusters(p))
		x, _ := inner.Of(f, p, id, pick(in(p, id), r))
		for _, a := range x.Cost {
			for i, by := range a {
				for j, on := range x.Cost[i] {
					if a[j] > sat.Add(by, on) {
						t.Fatal(f, p, id, x.Cells[i], x.Cells[j])
					}
				}
			}
		}
	})
}

func TestToAndBackOfATablesOwnCell(t *testing.T) {
	some(func(f api.Field, p part.Parts, r *rand) {
		id := r.below(clusters(p))
		x, _ := inner.Of(f, p, id, pick(in(p, id), r))
		for i, c := range x.Cells {
			toIs(t, f, p, id, x, c, x.Cost[i], api.OK)
			backIs(t, f, p, id, x, c, column(x.Cost, i), api.OK)
		}
	})
}

func TestOnTheWholeMapNothingIsFurther(t *testing.T) {
	some(func(f api.Field, p part.Parts, r *rand) {
		id := r.below(clusters(p))
		x, _ := inner.Of(f, p, id, pick(in(p, id), r))
		for i, from := range x.Cells {
			far, _ := flood.From(f, from)
			b, _ := p.Box(id)
			near, _ := flood.Within(f, b, from)
			for j, to := range x.Cells {
				at := to.Y*f.Size.W + to.X
				if far[at] > x.Cost[i][j] || near[at] != x.Cost[i][j] {
					t.Fatal(f, p, from, to, far[at], near[at], x.Cost[i][j])
				}
			}
		}
	})
}

// The chapter's example

func TestExample(t *testing.T) {
	f := api.Field{Size: api.Size{W: 4, H: 2}, Cost: []uint16{1, 5, 1, 1, 1, 1, 1, 1}}
	p := part.Parts{Size: f.Size, Side: 2}
	cells := []api.Cell{{}, {X: 1}, {X: 1, Y: 1}}
	want := [][]uint64{{0, 5, 2}, {1, 0, 1}, {2, 5, 0}}
	ofIs(t, f, p, 0, cells, want)
	x := inner.Table{Cells: cells, Cost: want}
	toIs(t, f, p, 0, x, api.Cell{Y: 1}, []uint64{1, 6, 1}, api.OK)
	backIs(t, f, p, 0, x, api.Cell{Y: 1}, []uint64{1, 2, 1}, api.OK)
}

// Rules that hold everywhere

func TestNothingIsWrittenInto(t *testing.T) {
	r := rand(8)
	f := strewn(api.Size{W: 9, H: 8}, 20, &r)
	p := part.Parts{Size: f.Size, Side: 3}
	costs := append(slices.Clone(f.Cost), 7, 8, 9)
	f.Cost = costs[:72:75]
	was := slices.Clone(costs)
	cells := append(in(p, 4), api.Cell{X: 7, Y: 7}, api.Cell{X: 8, Y: 7})
	had := slices.Clone(cells)
	rows := [][]uint64{{1, 2, 3}, {4, 5, 6}, nil}
	x := inner.Table{Cells: cells[:9], Cost: rows[:2]}
	inner.Of(f, p, 4, cells[:9])
	inner.To(f, p, 4, x, cells[1])
	inner.Back(f, p, 4, x, cells[1])
	inner.Same(x, x)
	if !slices.Equal(costs, was) {
		t.Error("a field was written into")
	}
	if !slices.Equal(cells, had) {
		t.Error("cells were written into")
	}
	if !sameRows(rows, [][]uint64{{1, 2, 3}, {4, 5, 6}, nil}) {
		t.Error("a table was written into")
	}
}

// spoil writes over all of a list, also behind its length.
func spoil[T any](l []T, with T) {
	for i := range l[:cap(l)] {
		l[:cap(l)][i] = with
	}
}

func TestNothingIsShared(t *testing.T) {
	f := even(api.Size{W: 9, H: 8}, 2)
	p := part.Parts{Size: f.Size, Side: 3}
	cells := in(p, 4)
	want := plainTable(f, p, 4, cells)
	x, _ := inner.Of(f, p, 4, cells)
	y, _ := inner.Of(f, p, 4, cells)
	to, _ := inner.To(f, p, 4, x, cells[0])
	back, _ := inner.Back(f, p, 4, x, cells[0])
	for i := range x.Cost {
		spoil(x.Cost[i], 7)
		for j := i + 1; j < len(x.Cost); j++ {
			if !slices.Equal(x.Cost[j], want[j]) {
				t.Error("rows", i, j, "of one table share memory")
			}
		}
	}
	spoil(x.Cost, nil)
	spoil(x.Cells, api.Cell{X: 7})
	if !slices.Equal(y.Cells, cells) || !sameRows(y.Cost, want) || !slices.Equal(to, want[0]) || !slices.Equal(back, column(want, 0)) {
		t.Error("answers share memory")
	}
	spoil(to, 7)
	spoil(back, 7)
	if !slices.Equal(cells, in(p, 4)) || !slices.Equal(f.Cost, even(f.Size, 2).Cost) {
		t.Error("an answer shares what was handed in")
	}
	ofIs(t, f, p, 4, cells, want)
	spoil(cells, api.Cell{X: 7})
	if !slices.Equal(y.Cells, in(p, 4)) {
		t.Error("cells were kept")
	}
}

func TestAFieldIsNotKept(t *testing.T) {
	f := even(api.Size{W: 4, H: 1}, 1)
	p := part.Parts{Size: f.Size, Side: 4}
	ends := []api.Cell{{}, {X: 3}}
	ofIs(t, f, p, 0, ends, [][]uint64{{0, 3}, {3, 0}})
	f.Cost[1] = 5
	ofIs(t, f, p, 0, ends, [][]uint64{{0, 7}, {7, 0}})
	f.Cost[2] = 0
	ofIs(t, f, p, 0, ends, [][]uint64{{0, inf}, {inf, 0}})
}

func TestAnything(t *testing.T) {
	fields := []api.Field{even(api.Size{W: 1, H: 1}, 1), even(api.Size{W: 5, H: 3}, 0), even(api.Size{W: 33, H: 40}, 1)}
	for _, l := range wrongFields() {
		fields = append(fields, l...)
	}
	for _, f := range fields {
		for _, side := range append(wrongSides(), 2, 3, 16) {
			p := part.Parts{Size: f.Size, Side: side}
			for _, id := range numbers() {
				for _, n := range numbers() {
					x := inner.Table{Cells: []api.Cell{{}, {X: n, Y: id}}, Cost: [][]uint64{nil}}
					inner.Of(f, p, id, x.Cells)
					inner.To(f, p, id, x, api.Cell{X: n, Y: n})
					inner.Back(f, p, id, x, api.Cell{X: id, Y: n})
					inner.To(f, p, id, inner.Table{}, api.Cell{X: id, Y: n})
					inner.Back(f, p, 0, inner.Table{Cells: x.Cells[:1]}, api.Cell{X: id, Y: n})
				}
			}
		}
	}
}
