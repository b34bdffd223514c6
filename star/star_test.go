package star_test

import (
	"math"
	"slices"
	"testing"

	"gloaming/api"
	"gloaming/star"
)

const inf = uint64(math.MaxUint64)

// wrong are sizes that may not be.
func wrong() []api.Size {
	return []api.Size{{}, {W: 0, H: 1}, {W: 1, H: 0}, {W: 257, H: 1}, {W: 1, H: 257}, {W: -1, H: 1}, {W: 1, H: -1}, {W: -3, H: -3}, {W: 1 << 32, H: 1 << 32}, {W: math.MaxInt, H: math.MaxInt}, {W: math.MinInt, H: math.MinInt}}
}

// off are cells just off a map, and far from it; some would be on it, if numbers went round.
func off(s api.Size) []api.Cell {
	l := []api.Cell{
		{X: -1}, {Y: -1}, {X: -1, Y: -1}, {X: s.W}, {Y: s.H}, {X: s.W, Y: s.H}, {X: s.W - 1, Y: s.H}, {X: s.W, Y: s.H - 1},
		{X: -1, Y: s.H - 1}, {X: s.W - 1, Y: -1}, {X: -1, Y: 1}, {X: -s.W, Y: 1},
	}
	for _, n := range []int{math.MaxInt, math.MinInt, 1 << 32, -1 << 32, 1 << 16, 1048576, 1048577, -1048577} {
		l = append(l, api.Cell{X: n}, api.Cell{Y: n}, api.Cell{X: n, Y: n})
	}
	return l
}

// below0 are budgets that may not be.
func below0() []int { return []int{-1, -2, -1 << 32, math.MinInt} }

// all are the cells of a map, row by row.
func all(s api.Size) []api.Cell {
	var l []api.Cell
	for y := range s.H {
		for x := range s.W {
			l = append(l, api.Cell{X: x, Y: y})
		}
	}
	return l
}

// beside are the cells beside one that are on a map.
func beside(s api.Size, c api.Cell) []api.Cell {
	l := []api.Cell{{X: c.X, Y: c.Y - 1}, {X: c.X + 1, Y: c.Y}, {X: c.X, Y: c.Y + 1}, {X: c.X - 1, Y: c.Y}}
	return slices.DeleteFunc(l, func(c api.Cell) bool {
		return c.X < 0 || c.Y < 0 || c.X >= s.W || c.Y >= s.H
	})
}

// walk is how far two cells are from each other without walls.
func walk(a, b api.Cell) uint64 {
	return uint64(max(a.X-b.X, b.X-a.X) + max(a.Y-b.Y, b.Y-a.Y))
}

// number is a cell's number.
func number(f api.Field, c api.Cell) int {
	return c.Y*f.Size.W + c.X
}

// cost is a cell's cost.
func cost(f api.Field, c api.Cell) uint64 {
	return uint64(f.Cost[number(f, c)])
}

// field is one of costs that are told row by row.
func field(w, h int, costs ...uint16) api.Field {
	return api.Field{Size: api.Size{W: w, H: h}, Cost: costs}
}

// even is a field of one cost.
func even(s api.Size, cost uint16) api.Field {
	return api.Field{Size: s, Cost: slices.Repeat([]uint16{cost}, s.W*s.H)}
}

// other is a field of which one cell has another cost.
func other(f api.Field, c api.Cell, cost uint16) api.Field {
	g := api.Field{Size: f.Size, Cost: slices.Clone(f.Cost)}
	g.Cost[number(f, c)] = cost
	return g
}

// each calls tell with all fields of a size whose costs are out of a list.
func each(s api.Size, costs []uint16, tell func(f api.Field)) {
	f := even(s, 0)
	var on func(i int)
	on = func(i int) {
		if i == len(f.Cost) {
			tell(f)
			return
		}
		for _, cost := range costs {
			f.Cost[i] = cost
			on(i + 1)
		}
	}
	on(0)
}

// rand is numbers without a plain rule, others by each seed.
type rand uint64

// below is the next one, from 0 to n less 1.
func (r *rand) below(n int) int {
	*r = *r*6364136223846793005 + 1442695040888963407
	return int(uint64(*r) >> 33 % uint64(n))
}

// strewn is a field of which walls in 100 cells are walls, and the others have costs from a list.
func strewn(s api.Size, walls int, costs []uint16, r *rand) api.Field {
	f := even(s, 0)
	for i := range f.Cost {
		if r.below(100) >= walls {
			f.Cost[i] = costs[r.below(len(costs))]
		}
	}
	return f
}

// few and many are costs by which often, and seldom, several ways cost the same.
func few() []uint16  { return []uint16{1, 2, 3} }
func many() []uint16 { return []uint16{1, 2, 255, 256, 32767, 32768, 65534, 65535, 7, 1000, 40000} }

// worlds are fields of all kinds, none of them great.
func worlds() []api.Field {
	r := rand(1)
	var l []api.Field
	for _, s := range []api.Size{{W: 1, H: 1}, {W: 1, H: 6}, {W: 6, H: 1}, {W: 2, H: 2}, {W: 4, H: 3}, {W: 3, H: 5}, {W: 5, H: 5}} {
		for _, walls := range []int{0, 20, 45} {
			for range 3 {
				l = append(l, strewn(s, walls, few(), &r), strewn(s, walls, many(), &r), strewn(s, walls, []uint16{1}, &r))
			}
		}
		l = append(l, even(s, 0), even(s, 1), even(s, 65535))
	}
	return l
}

// plainFind is what a search comes to on a field that is right, between two cells that are no walls, read from the chapter's words.
func plainFind(f api.Field, from, to api.Cell, budget int) (star.Result, api.Errno) {
	type mark struct {
		open, settled bool
		g             uint64
		by            api.Cell
	}
	marks := make([]mark, len(f.Cost))
	marks[number(f, from)] = mark{open: true}
	rank := func(c api.Cell) []uint64 {
		return []uint64{marks[number(f, c)].g + walk(c, to), walk(c, to), uint64(c.Y), uint64(c.X)}
	}
	for settled := 0; ; {
		open := slices.DeleteFunc(all(f.Size), func(c api.Cell) bool { return !marks[number(f, c)].open })
		if len(open) == 0 {
			return star.Result{Settled: settled}, api.ErrPath
		}
		if settled == budget {
			return star.Result{Settled: settled}, api.ErrBudget
		}
		at := slices.MinFunc(open, func(a, b api.Cell) int { return slices.Compare(rank(a), rank(b)) })
		m := &marks[number(f, at)]
		m.open, m.settled = false, true
		settled++
		if at == to {
			path := []api.Cell{to}
			for path[0] != from {
				path = slices.Insert(path, 0, marks[number(f, path[0])].by)
			}
			return star.Result{Path: path, Cost: m.g, Settled: settled}, api.OK
		}
		for _, c := range beside(f.Size, at) {
			n, g := &marks[number(f, c)], m.g+cost(f, c)
			if cost(f, c) != 0 && !n.settled && (!n.open || n.g > g) {
				*n = mark{open: true, g: g, by: at}
			}
		}
	}
}

// plainFar is how far each cell is from one: as far as the nearest one beside it, and its own cost, together; till nothing is told anew.
func plainFar(f api.Field, from api.Cell) []uint64 {
	far := slices.Repeat([]uint64{inf}, len(f.Cost))
	far[number(f, from)] = 0
	for again := true; again; {
		again = false
		for _, c := range all(f.Size) {
			for _, n := range beside(f.Size, c) {
				if cost(f, c) == 0 || far[number(f, n)] == inf {
					continue
				}
				if next := far[number(f, n)] + cost(f, c); next < far[number(f, c)] {
					far[number(f, c)], again = next, true
				}
			}
		}
	}
	return far
}

// wayCost is what a way costs; false: it is none between the two cells.
func wayCost(f api.Field, from, to api.Cell, way []api.Cell) (uint64, bool) {
	if len(way) == 0 || way[0] != from || way[len(way)-1] != to || cost(f, from) == 0 {
		return 0, false
	}
	sum := uint64(0)
	for i := 1; i < len(way); i++ {
		if !slices.Contains(beside(f.Size, way[i-1]), way[i]) || cost(f, way[i]) == 0 {
			return 0, false
		}
		sum += cost(f, way[i])
	}
	return sum, true
}

// same tells whether two results are the same.
func same(a, b star.Result) bool {
	return slices.Equal(a.Path, b.Path) && a.Cost == b.Cost && a.Settled == b.Settled
}

// told fails, if Find does not tell a result and an error.
func told(t *testing.T, f api.Field, from, to api.Cell, budget int, want star.Result, fault api.Errno) {
	t.Helper()
	if r, e := star.Find(f, from, to, budget); !same(r, want) || e != fault {
		// The costs of great maps are too many to be read.
		t.Fatalf("Find(%v %v, %v, %v, %d) = %v, %v, not %v, %v", f.Size, f.Cost[:min(len(f.Cost), 64)], from, to, budget, r, e, want, fault)
	}
}

// pairs calls tell with each two cells of a field that are no walls, also with one twice.
func pairs(f api.Field, tell func(from, to api.Cell)) {
	open := slices.DeleteFunc(all(f.Size), func(c api.Cell) bool { return cost(f, c) == 0 })
	for _, from := range open {
		for _, to := range open {
			tell(from, to)
		}
	}
}

// P10.1

func TestFindOfTheExamples(t *testing.T) {
	f := even(api.Size{W: 3, H: 3}, 1)
	to := api.Cell{X: 2}
	told(t, f, api.Cell{}, to, 9, star.Result{Path: []api.Cell{{}, {X: 1}, {X: 2}}, Cost: 2, Settled: 3}, api.OK)
	told(t, f, api.Cell{}, to, 2, star.Result{Settled: 2}, api.ErrBudget)
	walled := other(f, api.Cell{X: 1}, 0)
	told(t, walled, api.Cell{}, to, 9, star.Result{Path: []api.Cell{{}, {Y: 1}, {X: 1, Y: 1}, {X: 2, Y: 1}, {X: 2}}, Cost: 4, Settled: 5}, api.OK)
}

func TestFindOfAllSmallMaps(t *testing.T) {
	for _, s := range []api.Size{{W: 1, H: 1}, {W: 4, H: 1}, {W: 1, H: 4}, {W: 2, H: 2}, {W: 3, H: 2}, {W: 2, H: 3}} {
		each(s, []uint16{0, 1, 4}, func(f api.Field) {
			pairs(f, func(from, to api.Cell) {
				for budget := range len(f.Cost) + 2 {
					want, fault := plainFind(f, from, to, budget)
					told(t, f, from, to, budget, want, fault)
				}
			})
		})
	}
}

func TestFindOfAllKinds(t *testing.T) {
	for _, f := range worlds() {
		pairs(f, func(from, to api.Cell) {
			want, fault := plainFind(f, from, to, len(f.Cost))
			told(t, f, from, to, len(f.Cost), want, fault)
		})
	}
}

func TestFindOfGreaterMaps(t *testing.T) {
	r := rand(2)
	for _, s := range []api.Size{{W: 256, H: 1}, {W: 1, H: 256}, {W: 24, H: 18}, {W: 15, H: 32}} {
		for _, walls := range []int{0, 5, 30} {
			for _, costs := range [][]uint16{{1}, {65535}, {1, 1, 1, 1, 1, 9}, few(), many()} {
				f := strewn(s, walls, costs, &r)
				l := all(s)
				for range 4 {
					from, to := l[r.below(len(l))], l[r.below(len(l))]
					if cost(f, from) == 0 || cost(f, to) == 0 {
						told(t, f, from, to, len(l), star.Result{}, api.ErrPath)
						continue
					}
					for _, budget := range []int{1, len(l) / 10, len(l)} {
						want, fault := plainFind(f, from, to, budget)
						told(t, f, from, to, budget, want, fault)
					}
				}
			}
		}
	}
}

func TestFindSettlesTheLeastGuessFirst(t *testing.T) {
	// (0, 1) has as much G and guess together as (1, 1), and is farther to the left; but its guess is more, so it stays open.
	f := even(api.Size{W: 2, H: 3}, 1)
	told(t, f, api.Cell{}, api.Cell{X: 1, Y: 2}, 6, star.Result{Path: []api.Cell{{}, {X: 1}, {X: 1, Y: 1}, {X: 1, Y: 2}}, Cost: 3, Settled: 4}, api.OK)
	// (0, 1) is likewise held against (1, 1), and then against (1, 2), though it lies above that.
	f = field(3, 3, 1, 1, 0, 1, 1, 0, 1, 1, 1)
	told(t, f, api.Cell{}, api.Cell{X: 2, Y: 2}, 9, star.Result{Path: []api.Cell{{}, {X: 1}, {X: 1, Y: 1}, {X: 1, Y: 2}, {X: 2, Y: 2}}, Cost: 4, Settled: 5}, api.OK)
}

func TestFindLooksFirstWhereTheGoalLies(t *testing.T) {
	// What lies on the other side is farther with its guess, so it stays open.
	f := even(api.Size{W: 7, H: 1}, 1)
	told(t, f, api.Cell{X: 3}, api.Cell{}, 7, star.Result{Path: []api.Cell{{X: 3}, {X: 2}, {X: 1}, {}}, Cost: 3, Settled: 4}, api.OK)
	told(t, f, api.Cell{X: 3}, api.Cell{X: 6}, 7, star.Result{Path: []api.Cell{{X: 3}, {X: 4}, {X: 5}, {X: 6}}, Cost: 3, Settled: 4}, api.OK)
	f = even(api.Size{W: 1, H: 7}, 1)
	told(t, f, api.Cell{Y: 3}, api.Cell{}, 7, star.Result{Path: []api.Cell{{Y: 3}, {Y: 2}, {Y: 1}, {}}, Cost: 3, Settled: 4}, api.OK)
	told(t, f, api.Cell{Y: 3}, api.Cell{Y: 6}, 7, star.Result{Path: []api.Cell{{Y: 3}, {Y: 4}, {Y: 5}, {Y: 6}}, Cost: 3, Settled: 4}, api.OK)
}

func TestFindSettlesTheUppermostThenTheLeftOne(t *testing.T) {
	// There are two ways round the wall in the middle.
	f := other(even(api.Size{W: 3, H: 3}, 1), api.Cell{X: 1, Y: 1}, 0)
	for _, c := range []struct {
		from, to api.Cell
		way      []api.Cell
	}{
		{api.Cell{Y: 1}, api.Cell{X: 2, Y: 1}, []api.Cell{{Y: 1}, {}, {X: 1}, {X: 2}, {X: 2, Y: 1}}},
		{api.Cell{X: 2, Y: 1}, api.Cell{Y: 1}, []api.Cell{{X: 2, Y: 1}, {X: 2}, {X: 1}, {}, {Y: 1}}},
		{api.Cell{X: 1}, api.Cell{X: 1, Y: 2}, []api.Cell{{X: 1}, {}, {Y: 1}, {Y: 2}, {X: 1, Y: 2}}},
		{api.Cell{X: 1, Y: 2}, api.Cell{X: 1}, []api.Cell{{X: 1, Y: 2}, {Y: 2}, {Y: 1}, {}, {X: 1}}},
		// From corner to corner the uppermost one goes first, though the other one lies farther to the left.
		{api.Cell{}, api.Cell{X: 2, Y: 2}, []api.Cell{{}, {X: 1}, {X: 2}, {X: 2, Y: 1}, {X: 2, Y: 2}}},
		{api.Cell{X: 2, Y: 2}, api.Cell{}, []api.Cell{{X: 2, Y: 2}, {X: 2, Y: 1}, {X: 2}, {X: 1}, {}}},
	} {
		told(t, f, c.from, c.to, 9, star.Result{Path: c.way, Cost: 4, Settled: 5}, api.OK)
	}
}

func TestFindKeepsWhereACellCameFrom(t *testing.T) {
	// The goal is open from (1, 0), and then reached from (0, 1) with the same G.
	f := field(2, 2, 1, 1, 1, 5)
	told(t, f, api.Cell{}, api.Cell{X: 1, Y: 1}, 4, star.Result{Path: []api.Cell{{}, {X: 1}, {X: 1, Y: 1}}, Cost: 6, Settled: 4}, api.OK)
}

func TestFindTakesTheLesserG(t *testing.T) {
	// (0, 1) is open from (1, 1), with 11, ahead of (0, 0) being settled, from which it costs 10.
	f := field(2, 4, 1, 1, 9, 2, 1, 0, 1, 1)
	path := []api.Cell{{X: 1}, {}, {Y: 1}, {Y: 2}, {Y: 3}, {X: 1, Y: 3}}
	told(t, f, api.Cell{X: 1}, api.Cell{X: 1, Y: 3}, 8, star.Result{Path: path, Cost: 13, Settled: 7}, api.OK)
}

func TestFindCountsAllButTheFirstCell(t *testing.T) {
	f := field(3, 1, 100, 20, 3)
	told(t, f, api.Cell{}, api.Cell{X: 2}, 3, star.Result{Path: all(f.Size), Cost: 23, Settled: 3}, api.OK)
	told(t, f, api.Cell{X: 2}, api.Cell{}, 3, star.Result{Path: []api.Cell{{X: 2}, {X: 1}, {}}, Cost: 120, Settled: 3}, api.OK)
}

func TestFindStaysOnTheMap(t *testing.T) {
	// Rows do not go on at the other side.
	f := field(3, 2, 1, 0, 1, 1, 0, 1)
	told(t, f, api.Cell{X: 2}, api.Cell{Y: 1}, 9, star.Result{Settled: 2}, api.ErrPath)
	told(t, f, api.Cell{}, api.Cell{X: 2}, 9, star.Result{Settled: 2}, api.ErrPath)
}

func TestFindFromACellToItself(t *testing.T) {
	for _, f := range worlds() {
		for _, c := range all(f.Size) {
			if cost(f, c) == 0 {
				continue
			}
			told(t, f, c, c, 0, star.Result{}, api.ErrBudget)
			for _, budget := range []int{1, 2, math.MaxInt} {
				told(t, f, c, c, budget, star.Result{Path: []api.Cell{c}, Settled: 1}, api.OK)
			}
		}
	}
}

func TestFindOfAWall(t *testing.T) {
	for _, f := range worlds() {
		for _, from := range all(f.Size) {
			for _, to := range all(f.Size) {
				if cost(f, from) != 0 && cost(f, to) != 0 {
					continue
				}
				for _, budget := range []int{0, 1, len(f.Cost), math.MaxInt} {
					told(t, f, from, to, budget, star.Result{}, api.ErrPath)
				}
				// The budget is held against first.
				for _, budget := range below0() {
					told(t, f, from, to, budget, star.Result{}, api.ErrArg)
				}
			}
		}
	}
}

func TestFindOfABudgetBelow0(t *testing.T) {
	for _, f := range worlds() {
		pairs(f, func(from, to api.Cell) {
			for _, budget := range below0() {
				told(t, f, from, to, budget, star.Result{}, api.ErrArg)
			}
		})
	}
}

func TestFindOfCellsOffTheMap(t *testing.T) {
	for _, f := range worlds() {
		for _, budget := range append(below0(), 0, 1, math.MaxInt) {
			for _, out := range off(f.Size) {
				told(t, f, out, out, budget, star.Result{}, api.ErrRange)
				for _, in := range all(f.Size) {
					// Of walls and budgets below 0, too.
					told(t, f, out, in, budget, star.Result{}, api.ErrRange)
					told(t, f, in, out, budget, star.Result{}, api.ErrRange)
				}
			}
		}
	}
}

func TestFindOfAFieldThatIsNotRight(t *testing.T) {
	refused := func(f api.Field, fault api.Errno) {
		// The field is held against first, whatever else is.
		for _, c := range []api.Cell{{}, {X: -1, Y: 7}, {X: 300}, {X: math.MinInt, Y: math.MaxInt}} {
			for _, budget := range []int{-1, 0, 9, math.MaxInt, math.MinInt} {
				told(t, f, c, api.Cell{}, budget, star.Result{}, fault)
				told(t, f, api.Cell{}, c, budget, star.Result{}, fault)
			}
		}
	}
	for _, s := range wrong() {
		for _, n := range []int{0, 1, 9, 257} {
			refused(api.Field{Size: s, Cost: make([]uint16, n)}, api.ErrRange)
			refused(api.Field{Size: s, Cost: slices.Repeat([]uint16{1}, n)}, api.ErrRange)
		}
	}
	for _, s := range []api.Size{{W: 1, H: 1}, {W: 4, H: 3}, {W: 256, H: 1}, {W: 1, H: 256}, {W: 256, H: 256}} {
		n := s.W * s.H
		for _, k := range []int{0, n - 1, n + 1, 2 * n} {
			refused(api.Field{Size: s, Cost: make([]uint16, k)}, api.ErrLong)
			refused(api.Field{Size: s, Cost: slices.Repeat([]uint16{1}, k)}, api.ErrLong)
		}
		refused(api.Field{Size: s}, api.ErrLong)
	}
}

func TestFindWhatIsNotReached(t *testing.T) {
	// Three cells are reached, and the goal is none of them: a budget of three is enough to tell so, one of two is not.
	f := field(4, 2, 1, 1, 0, 1, 1, 0, 1, 1)
	to := api.Cell{X: 3, Y: 1}
	for budget, want := range []star.Result{{}, {Settled: 1}, {Settled: 2}} {
		told(t, f, api.Cell{}, to, budget, want, api.ErrBudget)
	}
	for _, budget := range []int{3, 4, 8, math.MaxInt} {
		told(t, f, api.Cell{}, to, budget, star.Result{Settled: 3}, api.ErrPath)
	}
	// The goal lies alone.
	f = field(3, 1, 1, 0, 1)
	told(t, f, api.Cell{X: 2}, api.Cell{}, 1, star.Result{Settled: 1}, api.ErrPath)
}

// snake is a field with one way, through every second row, from its first cell on; all cells on it have one cost.
func snake(s api.Size, cost uint16) (api.Field, []api.Cell) {
	f := even(s, 0)
	var way []api.Cell
	for y := range s.H {
		row := all(s)[y*s.W : (y+1)*s.W]
		switch {
		case y%4 == 1:
			row = row[s.W-1:]
		case y%4 == 2:
			slices.Reverse(row)
		case y%4 == 3:
			row = row[:1]
		}
		way = append(way, row...)
	}
	for _, c := range way {
		f.Cost[number(f, c)] = cost
	}
	return f, way
}

func TestFindOfTheLongestWay(t *testing.T) {
	// One way that costs more than what 31 bits hold.
	f, way := snake(api.Size{W: 256, H: 256}, 65535)
	costs := uint64(len(way)-1) * 65535
	if costs < 1<<31 {
		t.Fatal(costs)
	}
	from, to := way[0], way[len(way)-1]
	told(t, f, from, to, len(way), star.Result{Path: way, Cost: costs, Settled: len(way)}, api.OK)
	told(t, f, from, to, len(way)-1, star.Result{Settled: len(way) - 1}, api.ErrBudget)
	back := slices.Clone(way)
	slices.Reverse(back)
	told(t, f, to, from, api.MaxBudget, star.Result{Path: back, Cost: costs, Settled: len(way)}, api.OK)
	cut := other(f, way[len(way)/2], 0)
	told(t, cut, from, to, api.MaxBudget, star.Result{Settled: len(way) / 2}, api.ErrPath)
}

func TestFindOfTheGreatestMap(t *testing.T) {
	s := api.Size{W: 256, H: 256}
	from, to := api.Cell{}, api.Cell{X: 255, Y: 255}
	var way []api.Cell
	for x := range 256 {
		way = append(way, api.Cell{X: x})
	}
	for y := 1; y < 256; y++ {
		way = append(way, api.Cell{X: 255, Y: y})
	}
	told(t, even(s, 1), from, to, 511, star.Result{Path: way, Cost: 510, Settled: 511}, api.OK)
	told(t, even(s, 1), from, to, 510, star.Result{Settled: 510}, api.ErrBudget)
	// Of dear ground every cell is settled, as each of the others has less G and guess together than the goal.
	told(t, even(s, 65535), from, to, 65536, star.Result{Path: way, Cost: 510 * 65535, Settled: 65536}, api.OK)
	told(t, even(s, 65535), from, to, 65535, star.Result{Settled: 65535}, api.ErrBudget)
}

// P10.2

func TestAPathCostsLeastOfAllWays(t *testing.T) {
	for _, s := range []api.Size{{W: 4, H: 1}, {W: 2, H: 2}, {W: 3, H: 2}, {W: 2, H: 3}} {
		each(s, []uint16{0, 1, 3}, func(f api.Field) {
			for _, from := range all(s) {
				if cost(f, from) == 0 {
					continue
				}
				least := slices.Repeat([]uint64{inf}, len(f.Cost))
				var on func(way []api.Cell, costs uint64)
				on = func(way []api.Cell, costs uint64) {
					at := way[len(way)-1]
					least[number(f, at)] = min(least[number(f, at)], costs)
					for _, c := range beside(s, at) {
						if cost(f, c) != 0 && !slices.Contains(way, c) {
							on(append(slices.Clone(way), c), costs+cost(f, c))
						}
					}
				}
				on([]api.Cell{from}, 0)
				for _, to := range all(s) {
					holds(t, f, from, to, least)
				}
			}
		})
	}
}

// holds fails, if what Find tells with budget enough is not what follows from how far each cell is, and tells how many were settled.
func holds(t *testing.T, f api.Field, from, to api.Cell, far []uint64) star.Result {
	t.Helper()
	r, e := star.Find(f, from, to, len(f.Cost))
	least := far[number(f, to)]
	if least == inf {
		reached := 0
		for _, d := range far {
			if d != inf {
				reached++
			}
		}
		if cost(f, to) == 0 {
			reached = 0
		}
		if !same(r, star.Result{Settled: reached}) || e != api.ErrPath {
			t.Fatalf("of %v, from %v to %v: %v, %v, though there is no way", f, from, to, r, e)
		}
		return r
	}
	costs, is := wayCost(f, from, to, r.Path)
	if !is || costs != r.Cost || costs != least || e != api.OK {
		t.Fatalf("of %v, from %v to %v: %v, %v; the least way costs %d", f, from, to, r, e, least)
	}
	less, most := 0, 0
	for _, c := range all(f.Size) {
		switch d := far[number(f, c)]; {
		case d == inf:
		case d+walk(c, to) < least:
			less++
			most++
		case d+walk(c, to) == least:
			most++
		}
	}
	if r.Settled < max(less, len(r.Path)) || r.Settled > most {
		t.Fatalf("of %v, from %v to %v: %d are settled, not %d to %d", f, from, to, r.Settled, less, most)
	}
	return r
}

func TestAPathCostsLeast(t *testing.T) {
	for _, f := range worlds() {
		for _, from := range all(f.Size) {
			if cost(f, from) == 0 {
				continue
			}
			far := plainFar(f, from)
			for _, to := range all(f.Size) {
				holds(t, f, from, to, far)
			}
		}
	}
}

func TestAPathCostsLeastOnGreaterMaps(t *testing.T) {
	r := rand(3)
	for n := range 60 {
		f := strewn(api.Size{W: 20 + n%60, H: 80 - n%60}, n%40, [][]uint16{{1}, few(), many()}[n%3], &r)
		l := slices.DeleteFunc(all(f.Size), func(c api.Cell) bool { return cost(f, c) == 0 })
		from := l[r.below(len(l))]
		far := plainFar(f, from)
		for range 10 {
			holds(t, f, from, l[r.below(len(l))], far)
		}
	}
}

func TestBudgets(t *testing.T) {
	for _, f := range worlds() {
		pairs(f, func(from, to api.Cell) {
			want, fault := star.Find(f, from, to, len(f.Cost))
			if fault == api.ErrBudget {
				t.Fatalf("of %v, from %v to %v: as many as all cells are too few", f, from, to)
			}
			for budget := range want.Settled {
				told(t, f, from, to, budget, star.Result{Settled: budget}, api.ErrBudget)
			}
			for _, budget := range []int{want.Settled, want.Settled + 1, 2 * len(f.Cost), api.MaxBudget, math.MaxInt} {
				told(t, f, from, to, budget, want, fault)
			}
		})
	}
}

func TestBudgetsOnAGreaterMap(t *testing.T) {
	r := rand(4)
	for _, walls := range []int{0, 20, 45} {
		f := strewn(api.Size{W: 40, H: 30}, walls, few(), &r)
		from, to := api.Cell{X: 3, Y: 2}, api.Cell{X: 35, Y: 27}
		f = other(other(f, from, 1), to, 1)
		want, fault := star.Find(f, from, to, len(f.Cost))
		for _, budget := range []int{0, 1, 2, want.Settled / 2, want.Settled - 1} {
			told(t, f, from, to, budget, star.Result{Settled: budget}, api.ErrBudget)
		}
		for _, budget := range []int{want.Settled, want.Settled + 1, math.MaxInt} {
			told(t, f, from, to, budget, want, fault)
		}
	}
}

func TestWithMoreCostsNoPathCostsLess(t *testing.T) {
	r := rand(5)
	for n := range 40 {
		f := strewn(api.Size{W: 5, H: 4}, n%30, [][]uint16{{1}, few(), many()}[n%3], &r)
		l := slices.DeleteFunc(all(f.Size), func(c api.Cell) bool { return cost(f, c) == 0 })
		from, to := l[r.below(len(l))], l[r.below(len(l))]
		was, before := star.Find(f, from, to, len(f.Cost))
		for _, c := range l {
			more := min(cost(f, c)+1+uint64(r.below(4)), 65535)
			for _, dear := range []uint16{0, uint16(more), 65535} {
				g := other(f, c, dear)
				now, after := star.Find(g, from, to, len(f.Cost))
				if before == api.ErrPath && after != api.ErrPath || after == api.OK && now.Cost < was.Cost {
					t.Fatalf("of %v, from %v to %v: %v, and with %d at %v: %v", f, from, to, was, dear, c, now)
				}
				if before != api.OK || slices.Contains(was.Path, c) {
					continue
				}
				if costs, is := wayCost(g, from, to, was.Path); !is || costs != was.Cost || after != api.OK || now.Cost != costs {
					t.Fatalf("of %v, from %v to %v: %v, and with %d at %v, where it does not go, %v, %v", f, from, to, was, dear, c, now, after)
				}
			}
		}
	}
}

// Rules that hold everywhere

func TestNothingIsWrittenIntoOrShared(t *testing.T) {
	long := []uint16{1, 9, 1, 1, 1, 1, 77, 78}
	f := field(3, 2, long[:6]...)
	f.Cost = long[:6]
	from, to := api.Cell{}, api.Cell{X: 2}
	want := star.Result{Path: []api.Cell{{}, {Y: 1}, {X: 1, Y: 1}, {X: 2, Y: 1}, {X: 2}}, Cost: 4, Settled: 5}
	first, _ := star.Find(f, from, to, 6)
	second, _ := star.Find(f, from, to, 6)
	path := first.Path[:cap(first.Path)]
	for i := range path {
		path[i] = api.Cell{X: 55, Y: 55}
	}
	if !slices.Equal(long, []uint16{1, 9, 1, 1, 1, 1, 77, 78}) || !same(second, want) {
		t.Error(long, second)
	}
	// It is told anew after other fields, and after faults.
	star.Find(even(f.Size, 3), to, from, 6)
	star.Find(f, from, to, 1)
	star.Find(f, from, api.Cell{X: 3}, 6)
	told(t, f, from, to, 6, want, api.OK)
	// A field that was handed in is not kept.
	f.Cost[1] = 1
	told(t, f, from, to, 6, star.Result{Path: all(api.Size{W: 3, H: 1}), Cost: 2, Settled: 3}, api.OK)
	if !same(second, want) {
		t.Error(second)
	}
}
