package gate_test

import (
	"math"
	"slices"
	"testing"

	"gloaming/api"
	"gloaming/gate"
	"gloaming/part"
)

// wrongFields are fields that are not right, each with grid.Check's error.
func wrongFields() map[api.Errno][]api.Field {
	l := map[api.Errno][]api.Field{}
	for _, s := range []api.Size{{}, {W: 0, H: 1}, {W: 1, H: 0}, {W: 257, H: 1}, {W: 1, H: 257}, {W: -1, H: -1}, {W: 1 << 32, H: 1 << 32}, {W: math.MaxInt, H: math.MaxInt}, {W: math.MinInt, H: math.MinInt}} {
		for _, n := range []int{0, 1, 257} {
			l[api.ErrRange] = append(l[api.ErrRange], api.Field{Size: s, Cost: make([]uint16, n)})
		}
	}
	for _, s := range []api.Size{{W: 1, H: 1}, {W: 5, H: 3}, {W: 256, H: 256}} {
		for _, n := range []int{0, s.W*s.H - 1, s.W*s.H + 1} {
			l[api.ErrLong] = append(l[api.ErrLong], api.Field{Size: s, Cost: make([]uint16, n)})
		}
	}
	return l
}

// wrongSides are sides that no cluster may have.
func wrongSides() []int {
	return []int{0, 1, -1, -2, 17, 32, 1 << 32, 1<<32 + 2, math.MaxInt, math.MinInt}
}

// numbers are at, and about, all sorts of edges.
func numbers() []int {
	return []int{math.MinInt, -1 << 32, -257, -2, -1, 0, 1, 2, 5, 6, 255, 256, 16383, 16384, 1 << 32, math.MaxInt}
}

// noIDs are numbers of no cluster, of so many.
func noIDs(count int) []int {
	return []int{-1, -2, -count, count, count + 1, 2 * count, 1 << 32, -1 << 32, math.MaxInt, math.MinInt}
}

// off are cells just off a map, and far from it; some would be on it, if numbers went round.
func off(s api.Size) []api.Cell {
	l := []api.Cell{{X: -1}, {Y: -1}, {X: -1, Y: -1}, {X: s.W}, {Y: s.H}, {X: s.W, Y: s.H}, {X: s.W - 1, Y: s.H}, {X: s.W, Y: s.H - 1}, {X: -1, Y: 1}}
	for _, n := range []int{math.MaxInt, math.MinInt, 1 << 32, -1 << 32} {
		l = append(l, api.Cell{X: n}, api.Cell{Y: n}, api.Cell{X: n, Y: n})
	}
	return l
}

// rand is numbers without a plain rule, others by each seed.
type rand uint64

// below is the next one, from 0 to n less 1.
func (r *rand) below(n int) int {
	*r = *r*6364136223846793005 + 1442695040888963407
	return int(uint64(*r) >> 33 % uint64(n))
}

// even is a field of one cost.
func even(s api.Size, cost uint16) api.Field {
	return api.Field{Size: s, Cost: slices.Repeat([]uint16{cost}, s.W*s.H)}
}

// strewn is a field of which walls in 100 cells are walls.
func strewn(s api.Size, walls int, r *rand) api.Field {
	f := even(s, 0)
	for i := range f.Cost {
		if r.below(100) >= walls {
			f.Cost[i] = []uint16{1, 2, 255, 256, 65535}[r.below(5)]
		}
	}
	return f
}

// same is a field of its own with the same costs.
func same(f api.Field) api.Field {
	return api.Field{Size: f.Size, Cost: slices.Clone(f.Cost)}
}

// set gives a cell of a field a cost.
func set(f api.Field, c api.Cell, cost uint16) {
	f.Cost[c.Y*f.Size.W+c.X] = cost
}

// free tells whether a cell of a field is no wall.
func free(f api.Field, c api.Cell) bool {
	return f.Cost[c.Y*f.Size.W+c.X] != 0
}

// all are the cells of a map, row by row.
func all(s api.Size) []api.Cell {
	var l []api.Cell
	for y := range s.H {
		for x := range s.W {
			l = append(l, api.Cell{X: x, Y: y})
		}
	}
	return l
}

// cluster is that of a cell that is on the map.
func cluster(p part.Parts, c api.Cell) int {
	row := (p.Size.W + p.Side - 1) / p.Side
	return c.Y/p.Side*row + c.X/p.Side
}

// clusters is how many there are.
func clusters(p part.Parts) int {
	return cluster(p, api.Cell{X: p.Size.W - 1, Y: p.Size.H - 1}) + 1
}

// two is a pair of clusters, the lesser one first.
type two = [2]int

// plainBorders are the pairs of cells of all clusters side by side, in order.
func plainBorders(p part.Parts) map[two][]gate.Gate {
	l := map[two][]gate.Gate{}
	for _, c := range all(p.Size) {
		for _, d := range []api.Cell{{X: c.X + 1, Y: c.Y}, {X: c.X, Y: c.Y + 1}} {
			if d.X == p.Size.W || d.Y == p.Size.H {
				continue
			}
			if by := (two{cluster(p, c), cluster(p, d)}); by[0] != by[1] {
				l[by] = append(l[by], gate.Gate{A: c, B: d})
			}
		}
	}
	return l
}

// plainGates are the gates of a border, read from the chapter's words: each pair that is open, if as many open pairs lie ahead of it in its run as behind it, or one less.
func plainGates(f api.Field, border []gate.Gate) []gate.Gate {
	open := func(i int) bool {
		return 0 <= i && i < len(border) && free(f, border[i].A) && free(f, border[i].B)
	}
	var l []gate.Gate
	for i, g := range border {
		ahead, behind := 0, 0
		for open(i - ahead - 1) {
			ahead++
		}
		for open(i + behind + 1) {
			behind++
		}
		if open(i) && (ahead == behind || ahead+1 == behind) {
			l = append(l, g)
		}
	}
	return l
}

// plainOf are all gates, those of the lesser clusters first.
func plainOf(f api.Field, p part.Parts) []gate.Gate {
	borders := plainBorders(p)
	var l []gate.Gate
	row := (p.Size.W + p.Side - 1) / p.Side
	for a := range clusters(p) {
		l = append(l, plainGates(f, borders[two{a, a + 1}])...)
		if row > 1 { // else the cluster below is the one that was just told
			l = append(l, plainGates(f, borders[two{a, a + row}])...)
		}
	}
	return l
}

// plainCells are the cells of gates in a cluster: of all cells of the map, those.
func plainCells(p part.Parts, l []gate.Gate, id int) []api.Cell {
	return slices.DeleteFunc(all(p.Size), func(c api.Cell) bool {
		return cluster(p, c) != id || !slices.ContainsFunc(l, func(g gate.Gate) bool { return g.A == c || g.B == c })
	})
}

// at is the gate between two cells.
func at(ax, ay, bx, by int) gate.Gate {
	return gate.Gate{A: api.Cell{X: ax, Y: ay}, B: api.Cell{X: bx, Y: by}}
}

// betweenIs fails, if Between tells something else, of one order of two clusters or of the other one.
func betweenIs(t *testing.T, f api.Field, p part.Parts, a, b int, want []gate.Gate, fault api.Errno) {
	t.Helper()
	for _, o := range []two{{a, b}, {b, a}} {
		l, e := gate.Between(f, p, o[0], o[1])
		if !slices.Equal(l, want) || e != fault {
			t.Fatalf("%v, %v: Between %d and %d: %v, %v, not %v, %v", f, p, o[0], o[1], l, e, want, fault)
		}
	}
}

// ofIs fails, if Of tells something else.
func ofIs(t *testing.T, f api.Field, p part.Parts, want []gate.Gate, fault api.Errno) {
	t.Helper()
	if l, e := gate.Of(f, p); !slices.Equal(l, want) || e != fault {
		t.Fatalf("%v, %v: Of: %v, %v, not %v, %v", f, p, l, e, want, fault)
	}
}

// cellsIs fails, if Cells tells something else.
func cellsIs(t *testing.T, p part.Parts, l []gate.Gate, id int, want []api.Cell, fault api.Errno) {
	t.Helper()
	if c, e := gate.Cells(p, l, id); !slices.Equal(c, want) || e != fault {
		t.Fatalf("%v: Cells(%v, %d) = %v, %v, not %v, %v", p, l, id, c, e, want, fault)
	}
}

// asTold fails, if something else than the chapter's words is told of a field, cut by a side.
func asTold(t *testing.T, f api.Field, side int) {
	t.Helper()
	p := part.Parts{Size: f.Size, Side: side}
	for by, border := range plainBorders(p) {
		betweenIs(t, f, p, by[0], by[1], plainGates(f, border), api.OK)
	}
	l := plainOf(f, p)
	ofIs(t, f, p, l, api.OK)
	for id := range clusters(p) {
		cellsIs(t, p, l, id, plainCells(p, l, id), api.OK)
	}
}

// each calls tell with all fields of a size whose cells are walls, or cost 1.
func each(s api.Size, tell func(f api.Field)) {
	for bits := range 1 << (s.W * s.H) {
		f := even(s, 0)
		for i := range f.Cost {
			f.Cost[i] = uint16(bits >> i & 1)
		}
		tell(f)
	}
}

// some are fields of many sizes, with few and with many walls.
func some() []api.Field {
	r := rand(12)
	var l []api.Field
	for _, s := range []api.Size{{W: 1, H: 1}, {W: 1, H: 9}, {W: 9, H: 1}, {W: 2, H: 7}, {W: 7, H: 2}, {W: 6, H: 6}, {W: 11, H: 7}, {W: 8, H: 13}, {W: 17, H: 16}, {W: 16, H: 33}, {W: 35, H: 34}} {
		for _, walls := range []int{0, 4, 12, 30, 60, 100} {
			l = append(l, strewn(s, walls, &r))
		}
	}
	return l
}

// eachSome calls tell with fields of many sizes, and with parts of them by all sides.
func eachSome(tell func(f api.Field, p part.Parts)) {
	for _, f := range some() {
		for side := 2; side <= 16; side++ {
			tell(f, part.Parts{Size: f.Size, Side: side})
		}
	}
}

// greatest are fields of the greatest map, with the sides that cut it.
func greatest(tell func(f api.Field, p part.Parts)) {
	r := rand(256)
	for _, walls := range []int{0, 20, 100} {
		f := strewn(api.Size{W: 256, H: 256}, walls, &r)
		for _, side := range []int{2, 3, 15, 16} {
			tell(f, part.Parts{Size: f.Size, Side: side})
		}
	}
}

// strip is two clusters of a side, one beside or one below the other, the wall of the pair number i being in the first cluster, in the second one, or in both, by shut's bits.
func strip(side int, below bool, shut []int) (api.Field, part.Parts) {
	f := even(api.Size{W: 2 * side, H: len(shut)}, 1)
	if below {
		f.Size = api.Size{W: f.Size.H, H: f.Size.W}
	}
	for i, bits := range shut {
		for n := range 2 {
			c := api.Cell{X: side - 1 + n, Y: i}
			if below {
				c = api.Cell{X: i, Y: side - 1 + n}
			}
			if bits>>n&1 == 1 {
				set(f, c, 0)
			}
		}
	}
	return f, part.Parts{Size: f.Size, Side: side}
}

// inStrip is the gate of a strip's pair.
func inStrip(side int, below bool, i int) gate.Gate {
	if below {
		return at(i, side-1, i, side)
	}
	return at(side-1, i, side, i)
}

// P12.1

func TestOneRun(t *testing.T) {
	for _, below := range []bool{false, true} {
		for side := 2; side <= 16; side++ {
			for n := 1; n <= side; n++ {
				for first := 0; first+n <= side; first++ {
					shut := slices.Repeat([]int{3}, side)
					copy(shut[first:], make([]int, n))
					f, p := strip(side, below, shut)
					// 1 pair: the first; 2: the first; 3 or 4: the second; and so on.
					want := []gate.Gate{inStrip(side, below, first+(n-1)/2)}
					betweenIs(t, f, p, 0, 1, want, api.OK)
					ofIs(t, f, p, want, api.OK)
				}
			}
		}
	}
}

func TestAllRunsOfAShortBorder(t *testing.T) {
	for _, below := range []bool{false, true} {
		for bits := range 1 << 12 {
			var shut []int
			for i := range 6 {
				shut = append(shut, bits>>(2*i)&3)
			}
			f, p := strip(6, below, shut)
			var want []gate.Gate
			for i, n := 0, 0; i <= 6; i++ {
				if i < 6 && shut[i] == 0 {
					n++
					continue
				}
				if n > 0 {
					want = append(want, inStrip(6, below, i-n+(n-1)/2))
				}
				n = 0
			}
			betweenIs(t, f, p, 0, 1, want, api.OK)
		}
	}
}

func TestAShortLastCluster(t *testing.T) {
	// Where the map ends, the border of two clusters is as short as they are: here one pair, and then two.
	f := even(api.Size{W: 5, H: 5}, 1)
	p := part.Parts{Size: f.Size, Side: 4}
	betweenIs(t, f, p, 0, 1, []gate.Gate{at(3, 1, 4, 1)}, api.OK)
	betweenIs(t, f, p, 1, 3, []gate.Gate{at(4, 3, 4, 4)}, api.OK)
	betweenIs(t, f, p, 2, 3, []gate.Gate{at(3, 4, 4, 4)}, api.OK)
	f = even(api.Size{W: 6, H: 6}, 1)
	p = part.Parts{Size: f.Size, Side: 4}
	betweenIs(t, f, p, 1, 3, []gate.Gate{at(4, 3, 4, 4)}, api.OK)
	set(f, api.Cell{X: 4, Y: 4}, 0)
	betweenIs(t, f, p, 1, 3, []gate.Gate{at(5, 3, 5, 4)}, api.OK)
}

func TestAllSmallFields(t *testing.T) {
	for _, s := range []api.Size{{W: 1, H: 5}, {W: 5, H: 1}, {W: 3, H: 3}, {W: 2, H: 5}, {W: 4, H: 3}, {W: 3, H: 4}} {
		each(s, func(f api.Field) {
			asTold(t, f, 2)
			asTold(t, f, 3)
		})
	}
}

func TestSomeFields(t *testing.T) {
	eachSome(func(f api.Field, p part.Parts) {
		asTold(t, f, p.Side)
	})
}

func TestTheGreatestFields(t *testing.T) {
	greatest(func(f api.Field, p part.Parts) {
		l := plainOf(f, p)
		ofIs(t, f, p, l, api.OK)
		n := 0
		for a := range p.Count() {
			near, _ := p.Beside(a)
			for _, b := range near {
				between, e := gate.Between(f, p, a, b)
				if e != api.OK {
					t.Fatal(p, a, b, e)
				}
				n += len(between)
			}
		}
		if n != 2*len(l) {
			t.Errorf("%v: %d gates, and between all clusters %d", p, len(l), n)
		}
	})
}

func TestBetweenOfClustersNotSideBySide(t *testing.T) {
	f := even(api.Size{W: 9, H: 9}, 1)
	p := part.Parts{Size: f.Size, Side: 3}
	for _, by := range []two{{0, 4}, {1, 3}, {0, 2}, {2, 3}, {5, 6}, {0, 6}, {0, 8}, {1, 7}, {0, 0}, {4, 4}} {
		betweenIs(t, f, p, by[0], by[1], nil, api.ErrArg)
	}
}

func TestBetweenOfNoCluster(t *testing.T) {
	for _, s := range []api.Size{{W: 1, H: 1}, {W: 5, H: 3}, {W: 256, H: 4}} {
		f := even(s, 1)
		p := part.Parts{Size: s, Side: 2}
		for _, no := range noIDs(clusters(p)) {
			for _, id := range []int{0, clusters(p) - 1, no, -1, math.MaxInt} {
				betweenIs(t, f, p, no, id, nil, api.ErrRange)
			}
		}
	}
}

func TestFieldsThatAreNotRight(t *testing.T) {
	// The field is held against first, whatever else is wrong.
	for fault, l := range wrongFields() {
		for _, f := range l {
			for _, p := range []part.Parts{{Size: f.Size, Side: 2}, {Size: f.Size, Side: 1}, {Size: api.Size{W: 5, H: 3}, Side: 2}, {}} {
				ofIs(t, f, p, nil, fault)
				for _, id := range numbers() {
					betweenIs(t, f, p, id, 0, nil, fault)
					betweenIs(t, f, p, id, id, nil, fault)
				}
			}
		}
	}
}

func TestPartsOfAnotherSize(t *testing.T) {
	// They are held against before the clusters are.
	f := even(api.Size{W: 5, H: 3}, 1)
	for _, s := range []api.Size{{}, {W: 5, H: 4}, {W: 4, H: 3}, {W: 6, H: 3}, {W: 3, H: 5}, {W: 15, H: 1}, {W: 256, H: 256}, {W: 257, H: 3}, {W: -5, H: -3}} {
		for _, side := range append(wrongSides(), 2, 16) {
			p := part.Parts{Size: s, Side: side}
			ofIs(t, f, p, nil, api.ErrArg)
			for _, id := range numbers() {
				betweenIs(t, f, p, id, 0, nil, api.ErrArg)
				betweenIs(t, f, p, id, 1, nil, api.ErrArg)
			}
		}
	}
}

func TestPartsOfAWrongSide(t *testing.T) {
	for _, f := range []api.Field{even(api.Size{W: 1, H: 1}, 1), even(api.Size{W: 5, H: 3}, 1), even(api.Size{W: 40, H: 40}, 0)} {
		for _, side := range wrongSides() {
			p := part.Parts{Size: f.Size, Side: side}
			ofIs(t, f, p, nil, api.ErrArg)
			for _, id := range numbers() {
				betweenIs(t, f, p, id, 0, nil, api.ErrArg)
				cellsIs(t, p, []gate.Gate{{}}, id, nil, api.ErrArg)
			}
		}
	}
}

func TestOneCluster(t *testing.T) {
	for _, s := range []api.Size{{W: 1, H: 1}, {W: 16, H: 16}, {W: 16, H: 1}} {
		f := even(s, 1)
		p := part.Parts{Size: s, Side: 16}
		ofIs(t, f, p, nil, api.OK)
		betweenIs(t, f, p, 0, 0, nil, api.ErrArg)
		betweenIs(t, f, p, 0, 1, nil, api.ErrRange)
		cellsIs(t, p, nil, 0, nil, api.OK)
		cellsIs(t, p, nil, 1, nil, api.ErrRange)
	}
}

func TestTheOrderOfAll(t *testing.T) {
	f := even(api.Size{W: 6, H: 6}, 1)
	p := part.Parts{Size: f.Size, Side: 3}
	set(f, api.Cell{X: 1, Y: 2}, 0)
	set(f, api.Cell{X: 3, Y: 1}, 0)
	// 0 and 1, twice; 0 and 2, twice; 1 and 3; 2 and 3. By their cells alone (0, 2) would be ahead of (2, 2), and (4, 2) behind it.
	ofIs(t, f, p, []gate.Gate{at(2, 0, 3, 0), at(2, 2, 3, 2), at(0, 2, 0, 3), at(2, 2, 2, 3), at(4, 2, 4, 3), at(2, 4, 3, 4)}, api.OK)
}

func TestClustersInOneColumn(t *testing.T) {
	f := even(api.Size{W: 3, H: 7}, 1)
	p := part.Parts{Size: f.Size, Side: 3}
	set(f, api.Cell{X: 1, Y: 3}, 0)
	ofIs(t, f, p, []gate.Gate{at(0, 2, 0, 3), at(2, 2, 2, 3), at(1, 5, 1, 6)}, api.OK)
}

// P12.2

func TestCellsInAnyOrder(t *testing.T) {
	f := even(api.Size{W: 12, H: 12}, 1)
	p := part.Parts{Size: f.Size, Side: 4}
	r := rand(5)
	for range 200 {
		var l []gate.Gate
		for range r.below(12) {
			g := at(r.below(14)-1, r.below(14)-1, r.below(14)-1, r.below(14)-1)
			l = slices.Insert(l, r.below(len(l)+1), g)
			if r.below(2) == 0 {
				l = append(l, g)
			}
		}
		for id := range clusters(p) {
			cellsIs(t, p, l, id, plainCells(p, l, id), api.OK)
		}
	}
}

func TestCellsAreToldOnce(t *testing.T) {
	p := part.Parts{Size: api.Size{W: 4, H: 4}, Side: 2}
	// (1, 1) is a cell of two gates, one of which is there twice, and of one gate it is both cells.
	l := []gate.Gate{at(1, 1, 2, 1), at(1, 1, 1, 2), at(1, 1, 2, 1), at(1, 1, 1, 1), at(2, 1, 1, 1)}
	cellsIs(t, p, l, 0, []api.Cell{{X: 1, Y: 1}}, api.OK)
	cellsIs(t, p, l, 1, []api.Cell{{X: 2, Y: 1}}, api.OK)
	cellsIs(t, p, l, 2, []api.Cell{{X: 1, Y: 2}}, api.OK)
	cellsIs(t, p, l, 3, nil, api.OK)
}

func TestCellsRowByRow(t *testing.T) {
	p := part.Parts{Size: api.Size{W: 6, H: 6}, Side: 3}
	l := []gate.Gate{at(0, 2, 0, 3), at(2, 1, 3, 1), at(2, 2, 2, 3), at(2, 0, 3, 0), at(1, 2, 1, 3)}
	cellsIs(t, p, l, 0, []api.Cell{{X: 2}, {X: 2, Y: 1}, {Y: 2}, {X: 1, Y: 2}, {X: 2, Y: 2}}, api.OK)
	cellsIs(t, p, l, 2, []api.Cell{{Y: 3}, {X: 1, Y: 3}, {X: 2, Y: 3}}, api.OK)
}

func TestCellsOffTheMap(t *testing.T) {
	p := part.Parts{Size: api.Size{W: 5, H: 3}, Side: 2}
	var l []gate.Gate
	for _, c := range off(p.Size) {
		l = append(l, gate.Gate{A: c, B: c})
	}
	for id := range clusters(p) {
		cellsIs(t, p, l, id, nil, api.OK)
	}
	// The other cell of such a gate is one of its cluster nonetheless.
	for _, c := range off(p.Size) {
		cellsIs(t, p, []gate.Gate{{A: c, B: api.Cell{X: 4, Y: 2}}}, 5, []api.Cell{{X: 4, Y: 2}}, api.OK)
		cellsIs(t, p, []gate.Gate{{A: api.Cell{X: 4, Y: 2}, B: c}}, 5, []api.Cell{{X: 4, Y: 2}}, api.OK)
		cellsIs(t, p, []gate.Gate{{A: api.Cell{X: 4, Y: 2}, B: c}}, 0, nil, api.OK)
	}
}

func TestCellsOfNoCluster(t *testing.T) {
	for _, s := range []api.Size{{W: 1, H: 1}, {W: 5, H: 3}, {W: 256, H: 256}} {
		p := part.Parts{Size: s, Side: 2}
		for _, id := range noIDs(clusters(p)) {
			cellsIs(t, p, []gate.Gate{{}}, id, nil, api.ErrRange)
			cellsIs(t, p, nil, id, nil, api.ErrRange)
		}
	}
}

func TestCellsOfWrongSizes(t *testing.T) {
	for _, f := range wrongFields()[api.ErrRange] {
		for _, side := range append(wrongSides(), 2, 16) {
			for _, id := range numbers() {
				cellsIs(t, part.Parts{Size: f.Size, Side: side}, []gate.Gate{{}}, id, nil, api.ErrArg)
			}
		}
	}
}

// P12.3

func TestGatesAreNoWalls(t *testing.T) {
	eachSome(func(f api.Field, p part.Parts) {
		l, _ := gate.Of(f, p)
		for i, g := range l {
			apart := api.Cell{X: g.B.X - g.A.X, Y: g.B.Y - g.A.Y}
			if apart != (api.Cell{X: 1}) && apart != (api.Cell{Y: 1}) {
				t.Fatalf("%v: %v lie apart", p, g)
			}
			a, e := p.Of(g.A)
			b, d := p.Of(g.B)
			if e != api.OK || d != api.OK || a == b || !free(f, g.A) || !free(f, g.B) {
				t.Fatalf("%v, %v: %v is no gate", f, p, g)
			}
			if slices.Index(l, g) != i {
				t.Fatalf("%v, %v: %v is there twice", f, p, g)
			}
		}
	})
}

func TestAGateJustIfAPairIsOpen(t *testing.T) {
	eachSome(func(f api.Field, p part.Parts) {
		for a := range p.Count() {
			near, _ := p.Beside(a)
			for _, b := range near {
				border, _ := p.Border(a, b)
				some := slices.ContainsFunc(border, func(pair [2]api.Cell) bool { return free(f, pair[0]) && free(f, pair[1]) })
				l, e := gate.Between(f, p, a, b)
				if e != api.OK || len(l) > 0 != some {
					t.Fatalf("%v, %v: between %d and %d are %v, %v", f, p, a, b, l, e)
				}
			}
		}
	})
}

func TestBetweenTwoGatesIsAPairThatIsNotOpen(t *testing.T) {
	eachSome(func(f api.Field, p part.Parts) {
		for a := range p.Count() {
			near, _ := p.Beside(a)
			for _, b := range near {
				border, _ := p.Border(a, b)
				l, _ := gate.Between(f, p, a, b)
				for i := 1; i < len(l); i++ {
					from := slices.Index(border, [2]api.Cell{l[i-1].A, l[i-1].B})
					to := slices.Index(border, [2]api.Cell{l[i].A, l[i].B})
					if from < 0 || to <= from {
						t.Fatalf("%v, %v: between %d and %d are %v", f, p, a, b, l)
					}
					if !slices.ContainsFunc(border[from:to], func(pair [2]api.Cell) bool { return !free(f, pair[0]) || !free(f, pair[1]) }) {
						t.Fatalf("%v, %v: between %v and %v all is open", f, p, l[i-1], l[i])
					}
				}
			}
		}
	})
}

func TestGatesStayIfCostsTurn(t *testing.T) {
	r := rand(3)
	eachSome(func(f api.Field, p part.Parts) {
		l, _ := gate.Of(f, p)
		g := same(f)
		for i, cost := range g.Cost {
			if cost != 0 {
				g.Cost[i] = []uint16{1, 9, 256, 32768, 65535}[r.below(5)]
			}
		}
		ofIs(t, g, p, l, api.OK)
	})
}

// The chapter's example

func TestExample(t *testing.T) {
	f := even(api.Size{W: 4, H: 4}, 1)
	p := part.Parts{Size: f.Size, Side: 2}
	set(f, api.Cell{X: 1, Y: 1}, 0)
	betweenIs(t, f, p, 0, 1, []gate.Gate{at(1, 0, 2, 0)}, api.OK)
	betweenIs(t, f, p, 0, 2, []gate.Gate{at(0, 1, 0, 2)}, api.OK)
	betweenIs(t, f, p, 1, 3, []gate.Gate{at(2, 1, 2, 2)}, api.OK)
	l := []gate.Gate{at(1, 0, 2, 0), at(0, 1, 0, 2), at(2, 1, 2, 2), at(1, 2, 2, 2)}
	ofIs(t, f, p, l, api.OK)
	cellsIs(t, p, l, 0, []api.Cell{{X: 1}, {Y: 1}}, api.OK)
	cellsIs(t, p, l, 3, []api.Cell{{X: 2, Y: 2}}, api.OK)
}

// Rules that hold everywhere

func TestNothingIsWrittenInto(t *testing.T) {
	r := rand(8)
	f := strewn(api.Size{W: 9, H: 8}, 20, &r)
	p := part.Parts{Size: f.Size, Side: 3}
	costs := append(slices.Clone(f.Cost), 7, 8, 9)
	f.Cost = costs[:72:75]
	was := slices.Clone(costs)
	gate.Of(f, p)
	gate.Between(f, p, 0, 1)
	if !slices.Equal(costs, was) {
		t.Error("a field was written into")
	}
	behind := []gate.Gate{at(8, 7, 8, 6), at(1, 1, 1, 0), at(1, 1, 1, 0), {}, at(2, 2, 2, 3), at(0, 1, 2, 0), at(1, 0, 0, 0)}
	l, kept := behind[:5:7], slices.Clone(behind)
	for id := range 9 {
		gate.Cells(p, l, id)
	}
	if !slices.Equal(behind, kept) {
		t.Error("a list was written into")
	}
}

func TestNothingIsShared(t *testing.T) {
	f := even(api.Size{W: 9, H: 8}, 1)
	p := part.Parts{Size: f.Size, Side: 3}
	first, _ := gate.Of(f, p)
	between, _ := gate.Between(f, p, 0, 1)
	cells, _ := gate.Cells(p, first, 0)
	of, twice, in := slices.Clone(first), slices.Clone(between), slices.Clone(cells)
	other, _ := gate.Cells(p, first, 0)
	for _, l := range [][]gate.Gate{first[:cap(first)], between[:cap(between)]} {
		for i := range l {
			l[i] = at(7, 7, 7, 7)
		}
	}
	for i := range cells[:cap(cells)] {
		cells[:cap(cells)][i] = api.Cell{X: 7, Y: 7}
	}
	if !slices.Equal(other, in) {
		t.Error(other, in)
	}
	ofIs(t, f, p, of, api.OK)
	betweenIs(t, f, p, 0, 1, twice, api.OK)
	cellsIs(t, p, of, 0, in, api.OK)
}

func TestAFieldIsNotKept(t *testing.T) {
	f := even(api.Size{W: 4, H: 4}, 1)
	p := part.Parts{Size: f.Size, Side: 4}
	ofIs(t, f, p, nil, api.OK)
	p.Side = 2
	betweenIs(t, f, p, 0, 1, []gate.Gate{at(1, 0, 2, 0)}, api.OK)
	set(f, api.Cell{X: 1}, 0)
	betweenIs(t, f, p, 0, 1, []gate.Gate{at(1, 1, 2, 1)}, api.OK)
	set(f, api.Cell{X: 1, Y: 1}, 0)
	betweenIs(t, f, p, 0, 1, nil, api.OK)
}

func TestAnything(t *testing.T) {
	fields := []api.Field{even(api.Size{W: 1, H: 1}, 1), even(api.Size{W: 5, H: 3}, 0), even(api.Size{W: 33, H: 40}, 1)}
	for _, l := range wrongFields() {
		fields = append(fields, l...)
	}
	for _, f := range fields {
		for _, side := range append(wrongSides(), 2, 3, 16) {
			p := part.Parts{Size: f.Size, Side: side}
			gate.Of(f, p)
			gate.Of(f, part.Parts{Size: api.Size{W: 256, H: 256}, Side: side})
			for _, a := range numbers() {
				gate.Cells(p, nil, a)
				for _, b := range numbers() {
					gate.Between(f, p, a, b)
					gate.Cells(p, []gate.Gate{at(a, b, b, a)}, 0)
				}
			}
		}
	}
}
