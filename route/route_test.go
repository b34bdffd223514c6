package route_test

import (
	"math"
	"slices"
	"testing"

	"gloaming/api"
	"gloaming/route"
)

// plainest is how far X and Y of a plain cell may be from 0.
const plainest = 1048576

// path is cells that are told by X and Y in turn.
func path(numbers ...int) []api.Cell {
	var l []api.Cell
	for pair := range slices.Chunk(numbers, 2) {
		l = append(l, api.Cell{X: pair[0], Y: pair[1]})
	}
	return l
}

// field is one of costs that are told row by row.
func field(w, h int, costs ...uint16) api.Field {
	return api.Field{Size: api.Size{W: w, H: h}, Cost: costs}
}

// even is a field of one cost.
func even(s api.Size, cost uint16) api.Field {
	return api.Field{Size: s, Cost: slices.Repeat([]uint16{cost}, s.W*s.H)}
}

// rows are the cells from one to another one, and all between them, row by row.
func rows(from, to api.Cell) []api.Cell {
	var l []api.Cell
	for y := from.Y; y <= to.Y; y++ {
		for x := from.X; x <= to.X; x++ {
			l = append(l, api.Cell{X: x, Y: y})
		}
	}
	return l
}

// all are the cells of a map.
func all(s api.Size) []api.Cell {
	return rows(api.Cell{}, api.Cell{X: s.W - 1, Y: s.H - 1})
}

// lists are all lists of at most so many things, each of them one of a few.
func lists[T any](things []T, most int) [][]T {
	found := [][]T{nil}
	for first := 0; most > 0; most-- {
		last := len(found)
		for _, l := range found[first:last] {
			for _, thing := range things {
				found = append(found, append(slices.Clone(l), thing))
			}
		}
		first = last
	}
	return found
}

// wrong are sizes that may not be.
func wrong() []api.Size {
	return []api.Size{{}, {W: 0, H: 1}, {W: 1, H: 0}, {W: 257, H: 1}, {W: 1, H: 257}, {W: -1, H: 1}, {W: 1, H: -1}, {W: -3, H: -3}, {W: 1 << 32, H: 1 << 32}, {W: math.MaxInt, H: math.MaxInt}, {W: math.MinInt, H: math.MinInt}}
}

// off are cells just off a map, and far from it; some would be on it, if numbers went round.
func off(s api.Size) []api.Cell {
	l := path(-1, 0, 0, -1, -1, -1, s.W, 0, 0, s.H, s.W, s.H, s.W-1, s.H, s.W, s.H-1, -1, s.H-1, s.W-1, -1, -1, 1, -s.W, 1)
	for _, n := range []int{math.MaxInt, math.MinInt, 1 << 32, -1 << 32, 1 << 16, plainest, plainest + 1, -plainest - 1} {
		l = append(l, path(n, 0, 0, n, n, n)...)
	}
	return l
}

// on tells whether a cell is on a map of a size that may be.
func on(s api.Size, c api.Cell) bool {
	return 0 <= c.X && c.X < s.W && 0 <= c.Y && c.Y < s.H
}

// around are the cells beside one, by directions, be they on a map or not.
func around(c api.Cell) []api.Cell {
	return path(c.X, c.Y-1, c.X+1, c.Y, c.X, c.Y+1, c.X-1, c.Y)
}

// costOf is a cell's cost.
func costOf(f api.Field, c api.Cell) uint64 {
	return uint64(f.Cost[c.Y*f.Size.W+c.X])
}

// plainCost is what a path costs on a field that is right, read from the chapter's words.
func plainCost(f api.Field, l []api.Cell) (uint64, api.Errno) {
	if len(l) == 0 {
		return 0, api.ErrForm
	}
	sum := uint64(0)
	for i, c := range l {
		switch {
		case !on(f.Size, c):
			return 0, api.ErrRange
		case i > 0 && !slices.Contains(around(l[i-1]), c):
			return 0, api.ErrForm
		case costOf(f, c) == 0:
			return 0, api.ErrWall
		case i > 0:
			sum += costOf(f, c)
		}
	}
	return sum, api.OK
}

// plainMoves is a path's moves, read from the chapter's words.
func plainMoves(l []api.Cell) ([]byte, api.Errno) {
	if len(l) == 0 {
		return nil, api.ErrForm
	}
	var moves []byte
	for i, c := range l {
		if c.X < -plainest || c.X > plainest || c.Y < -plainest || c.Y > plainest {
			return nil, api.ErrRange
		}
		if i == 0 {
			continue
		}
		dir := slices.Index(around(l[i-1]), c)
		if dir < 0 {
			return nil, api.ErrForm
		}
		moves = append(moves, byte(dir))
	}
	return moves, api.OK
}

// plainCells is where moves lead on a map of a size that may be, read from the chapter's words.
func plainCells(s api.Size, from api.Cell, moves []byte) ([]api.Cell, api.Errno) {
	if !on(s, from) {
		return nil, api.ErrRange
	}
	l := []api.Cell{from}
	for _, move := range moves {
		if move > api.West {
			return nil, api.ErrArg
		}
		from = around(from)[move]
		if !on(s, from) {
			return nil, api.ErrRange
		}
		l = append(l, from)
	}
	return l, api.OK
}

// costs fails, if Check and Cost do not tell that, and the same error.
func costs(t *testing.T, f api.Field, l []api.Cell, want uint64, fault api.Errno) {
	t.Helper()
	if e := route.Check(f, l); e != fault {
		t.Errorf("Check(%v, %v) = %v, not %v", f.Size, short(l), e, fault)
	}
	if n, e := route.Cost(f, l); n != want || e != fault {
		t.Errorf("Cost(%v, %v) = %d, %v, not %d, %v", f.Size, short(l), n, e, want, fault)
	}
}

// leads fails, if Moves does not tell that.
func leads(t *testing.T, l []api.Cell, want []byte, fault api.Errno) {
	t.Helper()
	if m, e := route.Moves(l); !slices.Equal(m, want) || e != fault {
		t.Errorf("Moves(%v) = %v, %v, not %v, %v", short(l), short(m), e, short(want), fault)
	}
}

// comes fails, if Cells does not tell that.
func comes(t *testing.T, s api.Size, from api.Cell, moves []byte, want []api.Cell, fault api.Errno) {
	t.Helper()
	if l, e := route.Cells(s, from, moves); !slices.Equal(l, want) || e != fault {
		t.Errorf("Cells(%v, %v, %v) = %v, %v, not %v, %v", s, from, short(moves), short(l), e, short(want), fault)
	}
}

// joins fails, if Join does not tell that.
func joins(t *testing.T, a, b, want []api.Cell, fault api.Errno) {
	t.Helper()
	if l, e := route.Join(a, b); !slices.Equal(l, want) || e != fault {
		t.Errorf("Join(%v, %v) = %v, %v, not %v, %v", short(a), short(b), short(l), e, short(want), fault)
	}
}

// short is what a list begins with.
func short[T any](l []T) []T {
	return l[:min(len(l), 12)]
}

// rand is numbers without a plain rule, others by each seed.
type rand uint64

// below is the next one, from 0 to n less 1.
func (r *rand) below(n int) int {
	*r = *r*6364136223846793005 + 1442695040888963407
	return int(uint64(*r) >> 33 % uint64(n))
}

// worlds are fields of several sizes, some of them with walls.
func worlds() []api.Field {
	r := rand(1)
	var l []api.Field
	for _, s := range []api.Size{{W: 1, H: 1}, {W: 1, H: 9}, {W: 9, H: 1}, {W: 2, H: 2}, {W: 5, H: 4}, {W: 4, H: 7}, {W: 256, H: 3}, {W: 3, H: 256}} {
		for n := range 6 {
			f := even(s, 1)
			for i := range f.Cost {
				f.Cost[i] = []uint16{1, 2, 3, 7, 255, 256, 32768, 65535}[r.below(8)]
				if r.below(100) < 6*n {
					f.Cost[i] = 0
				}
			}
			l = append(l, f)
		}
	}
	return l
}

// strolls are some paths on a field, of at most so many cells.
func strolls(f api.Field, most int, r *rand) [][]api.Cell {
	var found [][]api.Cell
	for range 20 {
		c := api.Cell{X: r.below(f.Size.W), Y: r.below(f.Size.H)}
		if costOf(f, c) == 0 {
			continue
		}
		found = append(found, stroll(f, c, 1+r.below(most), r))
	}
	return found
}

// stroll is a path from a cell, of at most so many cells.
func stroll(f api.Field, from api.Cell, most int, r *rand) []api.Cell {
	l := []api.Cell{from}
	for range 4 * most {
		c := around(l[len(l)-1])[r.below(4)]
		if len(l) < most && on(f.Size, c) && costOf(f, c) != 0 {
			l = append(l, c)
		}
	}
	return l
}

// snake are all cells of a map, one beside the other.
func snake(s api.Size) []api.Cell {
	var l []api.Cell
	for y := range s.H {
		row := rows(api.Cell{Y: y}, api.Cell{X: s.W - 1, Y: y})
		if y%2 == 1 {
			slices.Reverse(row)
		}
		l = append(l, row...)
	}
	return l
}

// The chapter's examples

func TestTheExamples(t *testing.T) {
	f := field(2, 2, 1, 2, 3, 4)
	a, b := path(0, 0, 1, 0, 1, 1), path(1, 1, 0, 1)
	leads(t, a, []byte{api.East, api.South}, api.OK)
	comes(t, f.Size, api.Cell{}, []byte{api.East, api.South}, a, api.OK)
	costs(t, f, a, 6, api.OK)
	joins(t, a, b, path(0, 0, 1, 0, 1, 1, 0, 1), api.OK)
	costs(t, f, path(0, 0, 1, 0, 1, 1, 0, 1), 9, api.OK)
}

// P9.1

func TestCostOfAllShortLists(t *testing.T) {
	for _, s := range []api.Size{{W: 1, H: 1}, {W: 2, H: 1}, {W: 1, H: 2}, {W: 2, H: 2}} {
		// The cells of the map, and all just off it.
		walks := lists(rows(api.Cell{X: -1, Y: -1}, api.Cell{X: s.W, Y: s.H}), 3)
		for kind := range 1 << (s.W * s.H) {
			f := even(s, 0)
			for i := range f.Cost {
				f.Cost[i] = uint16(kind>>i&1) * uint16(1+10*i)
			}
			for _, l := range walks {
				want, fault := plainCost(f, l)
				costs(t, f, l, want, fault)
			}
		}
	}
}

func TestCostOfALongerList(t *testing.T) {
	f := field(3, 2, 1, 2, 0, 3, 4, 65535)
	for _, l := range lists(all(f.Size), 5) {
		want, fault := plainCost(f, l)
		costs(t, f, l, want, fault)
	}
}

func TestCostIsOfAllCellsButTheFirst(t *testing.T) {
	f := field(3, 1, 100, 20, 3)
	costs(t, f, path(0, 0), 0, api.OK)
	costs(t, f, path(0, 0, 1, 0), 20, api.OK)
	costs(t, f, path(0, 0, 1, 0, 2, 0), 23, api.OK)
	costs(t, f, path(2, 0, 1, 0, 0, 0), 120, api.OK)
	// A cell that is come to again is paid for again, the first one too.
	costs(t, f, path(0, 0, 1, 0, 0, 0, 1, 0), 140, api.OK)
}

func TestCostOfOneCell(t *testing.T) {
	for _, f := range worlds() {
		for _, c := range all(f.Size) {
			if costOf(f, c) == 0 {
				costs(t, f, []api.Cell{c}, 0, api.ErrWall)
			} else {
				costs(t, f, []api.Cell{c}, 0, api.OK)
			}
		}
	}
}

func TestCostOfNoCell(t *testing.T) {
	for _, f := range worlds() {
		costs(t, f, nil, 0, api.ErrForm)
		costs(t, f, []api.Cell{}, 0, api.ErrForm)
		costs(t, f, path(0, 0)[:0], 0, api.ErrForm)
	}
}

func TestCostOfAFieldThatIsNotRight(t *testing.T) {
	walks := [][]api.Cell{nil, {}, path(0, 0), path(0, 0, 1, 0), path(0, 0, 0, 0), path(-1, 0), path(math.MaxInt, math.MinInt), path(0, 0, 5, 5)}
	for _, l := range walks {
		for _, s := range wrong() {
			// The size is held against first, however many costs there are.
			for _, n := range []int{0, 1, 9, 257} {
				costs(t, api.Field{Size: s, Cost: slices.Repeat([]uint16{1}, n)}, l, 0, api.ErrRange)
			}
		}
		for _, s := range []api.Size{{W: 1, H: 1}, {W: 4, H: 3}, {W: 256, H: 1}, {W: 1, H: 256}, {W: 256, H: 256}} {
			n := s.W * s.H
			for _, k := range []int{0, n - 1, n + 1, 2 * n} {
				costs(t, api.Field{Size: s, Cost: slices.Repeat([]uint16{1}, k)}, l, 0, api.ErrLong)
			}
			costs(t, api.Field{Size: s}, l, 0, api.ErrLong)
		}
	}
}

func TestCostOfWhatIsWrongFirst(t *testing.T) {
	f := field(4, 2, 1, 1, 1, 0, 1, 1, 0, 1)
	for _, c := range []struct {
		l     []api.Cell
		fault api.Errno
	}{
		// Of one cell: the map, and then how it lies, and then a wall.
		{path(0, 0, -1, 0), api.ErrRange},
		{path(0, 0, -2, 0), api.ErrRange},
		{path(0, 0, 2, 1), api.ErrForm},
		{path(2, 0, 3, 0), api.ErrWall},
		{path(0, 0, 2, 0), api.ErrForm},
		{path(0, 0, 1, 1), api.ErrForm},
		{path(0, 0, 0, 0), api.ErrForm},
		{path(3, 0), api.ErrWall},
		{path(3, 0, 3, 0), api.ErrWall},
		// Of several: that of the first one, whatever it is.
		{path(3, 0, 4, 0), api.ErrWall},
		{path(3, 0, 0, 0), api.ErrWall},
		{path(4, 0, 3, 0), api.ErrRange},
		{path(4, 0, 0, 0), api.ErrRange},
		{path(2, 0, 3, 0, 4, 0), api.ErrWall},
		{path(2, 0, 3, 0, 0, 0), api.ErrWall},
		{path(0, 0, 2, 0, 9, 9), api.ErrForm},
		{path(0, 0, 2, 0, 3, 0), api.ErrForm},
		{path(0, 0, 9, 9, 3, 0), api.ErrRange},
		{path(0, 0, 9, 9, 0, 0), api.ErrRange},
		// What comes behind it does not mend it.
		{path(1, 0, 2, 0, 3, 0, 3, 1, 2, 1), api.ErrWall},
		{path(1, 0, 2, 0, 2, 0, 1, 0), api.ErrForm},
		{path(1, 1, 1, 2, 1, 1), api.ErrRange},
	} {
		costs(t, f, c.l, 0, c.fault)
	}
}

func TestCostOfWhatIsOffTheMap(t *testing.T) {
	for _, f := range worlds() {
		// Rows do not go on at the other side.
		for _, c := range off(f.Size) {
			costs(t, f, []api.Cell{c}, 0, api.ErrRange)
			costs(t, f, []api.Cell{c, c}, 0, api.ErrRange)
		}
	}
	f := even(api.Size{W: 3, H: 3}, 5)
	costs(t, f, path(2, 0, 0, 1), 0, api.ErrForm)
	costs(t, f, path(0, 1, 2, 0), 0, api.ErrForm)
	for _, c := range off(f.Size) {
		for _, from := range all(f.Size) {
			costs(t, f, []api.Cell{from, c}, 0, api.ErrRange)
			costs(t, f, []api.Cell{from, c, from}, 0, api.ErrRange)
		}
	}
}

func TestCostOfTheGreatestCosts(t *testing.T) {
	s := api.Size{W: 256, H: 256}
	l := snake(s)
	costs(t, even(s, 65535), l, 65535*65535, api.OK)
	costs(t, even(s, 1), l, 65535, api.OK)
	// There and back, till more than 32 bits are full.
	back := slices.Clone(l[:len(l)-1])
	slices.Reverse(back)
	l = append(l, back...)
	costs(t, even(s, 65535), l, 2*65535*65535, api.OK)
	f := even(s, 65535)
	f.Cost[0] = 0
	costs(t, f, l[1:len(l)-1], (2*65535-2)*65535, api.OK)
	costs(t, f, l[1:], 0, api.ErrWall)
}

// P9.2

func TestMovesOfAllShortLists(t *testing.T) {
	for _, x := range []int{0, -1, 100, plainest, -plainest} {
		for _, y := range []int{0, 7, plainest, -plainest} {
			for _, l := range lists(rows(api.Cell{X: x - 1, Y: y - 1}, api.Cell{X: x + 1, Y: y + 1}), 3) {
				want, fault := plainMoves(l)
				leads(t, l, want, fault)
			}
		}
	}
}

func TestMovesOfALongerList(t *testing.T) {
	for _, l := range lists(path(0, 0, 1, 0, 0, 1, 1, 1), 6) {
		want, fault := plainMoves(l)
		leads(t, l, want, fault)
	}
}

func TestMovesInAllDirections(t *testing.T) {
	leads(t, path(5, 5, 5, 4), []byte{0}, api.OK)
	leads(t, path(5, 5, 6, 5), []byte{1}, api.OK)
	leads(t, path(5, 5, 5, 6), []byte{2}, api.OK)
	leads(t, path(5, 5, 4, 5), []byte{3}, api.OK)
	leads(t, path(5, 5, 5, 4, 6, 4, 6, 5, 5, 5, 5, 4), []byte{0, 1, 2, 3, 0}, api.OK)
	// No map is asked for.
	leads(t, path(-7, -9, -8, -9, -8, -10), []byte{3, 0}, api.OK)
	leads(t, path(1000, 2000), nil, api.OK)
}

func TestMovesOfNoCell(t *testing.T) {
	leads(t, nil, nil, api.ErrForm)
	leads(t, []api.Cell{}, nil, api.ErrForm)
	leads(t, path(0, 0)[:0], nil, api.ErrForm)
}

func TestMovesAtTheEndsOfPlainCells(t *testing.T) {
	for _, n := range []int{plainest, -plainest} {
		for _, c := range path(n, 0, 0, n, n, n, n, -n) {
			leads(t, []api.Cell{c}, nil, api.OK)
			for dir, beside := range around(c) {
				if max(beside.X, beside.Y) > plainest || min(beside.X, beside.Y) < -plainest {
					leads(t, []api.Cell{c, beside}, nil, api.ErrRange)
					leads(t, []api.Cell{beside, c}, nil, api.ErrRange)
					leads(t, []api.Cell{beside}, nil, api.ErrRange)
				} else {
					leads(t, []api.Cell{c, beside}, []byte{byte(dir)}, api.OK)
				}
			}
		}
	}
}

func TestMovesOfWhatIsWrongFirst(t *testing.T) {
	for _, n := range []int{plainest + 1, -plainest - 1, 1 << 40, math.MaxInt, math.MinInt} {
		for _, c := range path(n, 0, 0, n, n, n, n, -3) {
			leads(t, []api.Cell{c}, nil, api.ErrRange)
			leads(t, []api.Cell{c, c}, nil, api.ErrRange)
			leads(t, []api.Cell{c, {}, {X: 9}}, nil, api.ErrRange)
			for _, beside := range around(c) {
				leads(t, []api.Cell{c, beside}, nil, api.ErrRange)
				leads(t, []api.Cell{{}, {X: 1}, c, beside}, nil, api.ErrRange)
			}
			leads(t, []api.Cell{{}, c}, nil, api.ErrRange)
			leads(t, []api.Cell{{}, {X: 1}, c}, nil, api.ErrRange)
			leads(t, []api.Cell{{}, c, {}}, nil, api.ErrRange)
			leads(t, []api.Cell{{}, {X: 1}, c, {X: 9}}, nil, api.ErrRange)
			leads(t, []api.Cell{{}, {X: 2}, c}, nil, api.ErrForm)
			leads(t, []api.Cell{{}, {X: 1}, {X: 1}, c}, nil, api.ErrForm)
			leads(t, []api.Cell{{}, {X: 1, Y: 1}, c, {}}, nil, api.ErrForm)
		}
	}
	leads(t, path(0, 0, 1, 0, 3, 0, 4, 0), nil, api.ErrForm)
	leads(t, path(plainest, 0, -plainest, 0), nil, api.ErrForm)
}

func TestCellsOfAllShortMoves(t *testing.T) {
	moves := lists([]byte{0, 1, 2, 3, 4, 255}, 5)
	for _, s := range []api.Size{{W: 1, H: 1}, {W: 3, H: 1}, {W: 1, H: 3}, {W: 3, H: 2}} {
		for _, from := range rows(api.Cell{X: -1, Y: -1}, api.Cell{X: s.W, Y: s.H}) {
			for _, m := range moves {
				want, fault := plainCells(s, from, m)
				comes(t, s, from, m, want, fault)
			}
		}
	}
}

func TestCellsOfEachByte(t *testing.T) {
	s, from := api.Size{W: 3, H: 3}, api.Cell{X: 1, Y: 1}
	for move := range 256 {
		m := []byte{byte(move)}
		if move < 4 {
			comes(t, s, from, m, []api.Cell{from, around(from)[move]}, api.OK)
			comes(t, api.Size{W: 1, H: 1}, api.Cell{}, m, nil, api.ErrRange)
		} else {
			comes(t, s, from, m, nil, api.ErrArg)
			// Though each step from there is one off the map.
			comes(t, api.Size{W: 1, H: 1}, api.Cell{}, m, nil, api.ErrArg)
		}
	}
}

func TestCellsOfWhatIsWrongFirst(t *testing.T) {
	s := api.Size{W: 4, H: 3}
	comes(t, s, api.Cell{X: 4}, []byte{4}, nil, api.ErrRange)
	comes(t, s, api.Cell{}, []byte{api.North, 4}, nil, api.ErrRange)
	comes(t, s, api.Cell{}, []byte{4, api.North}, nil, api.ErrArg)
	comes(t, s, api.Cell{}, []byte{api.East, 4, api.North}, nil, api.ErrArg)
	comes(t, s, api.Cell{}, []byte{api.East, api.North, 4}, nil, api.ErrRange)
	// Back onto the map does not mend it.
	comes(t, s, api.Cell{}, []byte{api.North, api.South}, nil, api.ErrRange)
	comes(t, s, api.Cell{X: 3}, []byte{api.East}, nil, api.ErrRange)
	comes(t, s, api.Cell{X: 3, Y: 2}, []byte{api.South}, nil, api.ErrRange)
	comes(t, s, api.Cell{Y: 1}, []byte{api.West}, nil, api.ErrRange)
}

func TestCellsFromWhatIsOffTheMap(t *testing.T) {
	for _, m := range [][]byte{nil, {}, {api.North}, {api.East}, {api.South}, {api.West}, {9}} {
		for _, s := range []api.Size{{W: 1, H: 1}, {W: 4, H: 3}, {W: 256, H: 256}} {
			for _, from := range off(s) {
				comes(t, s, from, m, nil, api.ErrRange)
			}
		}
		for _, s := range wrong() {
			for _, from := range path(0, 0, 1, 1, -1, 0, math.MaxInt, math.MinInt) {
				comes(t, s, from, m, nil, api.ErrRange)
			}
		}
	}
}

func TestCellsOfNoMoves(t *testing.T) {
	for _, s := range []api.Size{{W: 1, H: 1}, {W: 4, H: 3}, {W: 1, H: 256}, {W: 256, H: 1}} {
		for _, from := range all(s) {
			comes(t, s, from, nil, []api.Cell{from}, api.OK)
			comes(t, s, from, []byte{}, []api.Cell{from}, api.OK)
		}
	}
}

// P9.3

func TestJoinOfAllShortLists(t *testing.T) {
	// It is not asked whether they are paths.
	l := lists(path(0, 0, 1, 0, 0, 1, math.MaxInt, math.MinInt), 3)
	for _, a := range l {
		for _, b := range l {
			if len(a) == 0 || len(b) == 0 || a[len(a)-1] != b[0] {
				joins(t, a, b, nil, api.ErrForm)
			} else {
				joins(t, a, b, append(slices.Clone(a[:len(a)-1]), b...), api.OK)
			}
		}
	}
}

func TestJoinOfNoCell(t *testing.T) {
	for _, none := range [][]api.Cell{nil, {}, path(0, 0)[:0]} {
		joins(t, none, path(0, 0), nil, api.ErrForm)
		joins(t, path(0, 0), none, nil, api.ErrForm)
		joins(t, none, none, nil, api.ErrForm)
	}
}

func TestJoinWhereOneEnds(t *testing.T) {
	joins(t, path(3, 4), path(3, 4), path(3, 4), api.OK)
	joins(t, path(3, 4), path(3, 4, 3, 5), path(3, 4, 3, 5), api.OK)
	joins(t, path(3, 5, 3, 4), path(3, 4), path(3, 5, 3, 4), api.OK)
	// They are held together end to end alone, and X as well as Y.
	joins(t, path(3, 4), path(4, 3), nil, api.ErrForm)
	joins(t, path(3, 4), path(3, 5), nil, api.ErrForm)
	joins(t, path(3, 4), path(2, 4), nil, api.ErrForm)
	joins(t, path(0, 0, 1, 0), path(0, 0, 1, 0), nil, api.ErrForm)
	joins(t, path(0, 0, 1, 0), path(2, 0, 1, 0), nil, api.ErrForm)
	joins(t, path(1, 0, 0, 0), path(1, 0, 2, 0), nil, api.ErrForm)
	joins(t, path(0, 0, 1, 0), path(2, 0, 3, 0), nil, api.ErrForm)
}

// P9.4

func TestMovesAndCellsAreOneToOne(t *testing.T) {
	r := rand(2)
	for _, f := range worlds() {
		for _, l := range strolls(f, 300, &r) {
			moves, e := route.Moves(l)
			if e != api.OK || len(moves) != len(l)-1 {
				t.Fatalf("Moves(%v) = %v, %v", short(l), short(moves), e)
			}
			comes(t, f.Size, l[0], moves, l, api.OK)
			want, _ := plainCost(f, l)
			costs(t, f, l, want, api.OK)
		}
	}
	// And the moves of what moves lead to.
	s := api.Size{W: 3, H: 2}
	for _, m := range lists([]byte{0, 1, 2, 3}, 6) {
		for _, from := range all(s) {
			if l, e := route.Cells(s, from, m); e == api.OK {
				leads(t, l, m, api.OK)
				costs(t, even(s, 3), l, 3*uint64(len(m)), api.OK)
			}
		}
	}
}

func TestJoinedPathsAreAPath(t *testing.T) {
	r := rand(3)
	for _, f := range worlds() {
		for _, a := range strolls(f, 40, &r) {
			b := stroll(f, a[len(a)-1], 1+r.below(40), &r)
			l, e := route.Join(a, b)
			if e != api.OK || len(l) != len(a)+len(b)-1 {
				t.Fatalf("Join(%v, %v) = %v, %v", a, b, l, e)
			}
			first, _ := route.Cost(f, a)
			second, _ := route.Cost(f, b)
			costs(t, f, l, first+second, api.OK)
			there, _ := route.Moves(a)
			on, _ := route.Moves(b)
			leads(t, l, slices.Concat(there, on), api.OK)
		}
	}
}

func TestAPathTheOtherWayRound(t *testing.T) {
	r := rand(4)
	for _, f := range worlds() {
		for _, l := range strolls(f, 60, &r) {
			there, _ := route.Cost(f, l)
			moves, _ := route.Moves(l)
			slices.Reverse(l)
			costs(t, f, l, there+costOf(f, l[len(l)-1])-costOf(f, l[0]), api.OK)
			slices.Reverse(moves)
			for i, m := range moves {
				moves[i] = (m + 2) % 4
			}
			leads(t, l, moves, api.OK)
		}
	}
}

func TestGreatPaths(t *testing.T) {
	s := api.Size{W: 256, H: 256}
	l := snake(s)
	moves, e := route.Moves(l)
	if len(moves) != 65535 || e != api.OK {
		t.Fatal(len(moves), e)
	}
	comes(t, s, api.Cell{}, moves, l, api.OK)
	for at := 0; at < len(l); at += 4093 {
		joins(t, l[:at+1], l[at:], l, api.OK)
	}
	// As often as one likes there and back.
	moves = slices.Repeat([]byte{api.South, api.North}, 200000)
	l, e = route.Cells(api.Size{W: 1, H: 2}, api.Cell{}, moves)
	if len(l) != 400001 || e != api.OK {
		t.Fatal(len(l), e)
	}
	leads(t, l, moves, api.OK)
	costs(t, field(1, 2, 3, 65535), l, 200000*65538, api.OK)
	comes(t, api.Size{W: 1, H: 2}, api.Cell{}, append(moves, api.South, api.South), nil, api.ErrRange)
	comes(t, api.Size{W: 1, H: 2}, api.Cell{}, append(moves, 4, api.North), nil, api.ErrArg)
}

// Rules that hold everywhere

// fill writes into a list, and what stands behind it.
func fill[T any](l []T, by T) {
	l = l[:cap(l)]
	for i := range l {
		l[i] = by
	}
}

func TestNothingIsWrittenIntoOrShared(t *testing.T) {
	f := field(2, 2, 1, 2, 3, 4)
	longA, longB := path(0, 0, 1, 0, 1, 1, 88, 88, 99, 99), path(1, 1, 0, 1, 88, 88, 99, 99)
	longMoves := []byte{api.East, api.South, 88, 99}
	a, b, m := longA[:3], longB[:2], longMoves[:2]
	whole := path(0, 0, 1, 0, 1, 1, 0, 1)
	for range 3 {
		// Each round writes into what the one ahead of it was told.
		moves, _ := route.Moves(a)
		l, _ := route.Cells(f.Size, a[0], m)
		joined, _ := route.Join(a, b)
		one, _ := route.Join(a[:1], a)
		other, _ := route.Join(a, a[2:])
		costs(t, f, joined, 9, api.OK)
		if !slices.Equal(moves, m) || !slices.Equal(l, a) || !slices.Equal(joined, whole) || !slices.Equal(one, a) || !slices.Equal(other, a) {
			t.Fatal(moves, l, joined, one, other)
		}
		fill(moves, 77)
		for _, told := range [][]api.Cell{l, joined, one, other} {
			fill(told, api.Cell{X: 77, Y: 77})
		}
	}
	if !slices.Equal(longA, path(0, 0, 1, 0, 1, 1, 88, 88, 99, 99)) || !slices.Equal(longB, path(1, 1, 0, 1, 88, 88, 99, 99)) || !slices.Equal(longMoves, []byte{api.East, api.South, 88, 99}) || !slices.Equal(f.Cost, []uint16{1, 2, 3, 4}) {
		t.Error(longA, longB, longMoves, f.Cost)
	}
}

func TestWhatIsHandedInIsNotKept(t *testing.T) {
	f := field(2, 2, 1, 2, 3, 4)
	a, b, m := path(0, 0, 1, 0), path(1, 0, 1, 1), []byte{api.East, api.South}
	moves, _ := route.Moves(a)
	l, _ := route.Cells(f.Size, a[0], m)
	joined, _ := route.Join(a, b)
	costs(t, f, joined, 6, api.OK)
	fill(a, api.Cell{X: 77})
	fill(b, api.Cell{X: 77})
	fill(m, 77)
	f.Cost[3] = 0
	if want := path(0, 0, 1, 0, 1, 1); !slices.Equal(moves, []byte{api.East}) || !slices.Equal(l, want) || !slices.Equal(joined, want) {
		t.Error(moves, l, joined)
	}
	costs(t, f, joined, 0, api.ErrWall)
}

func TestBesideAnErrorThereIsNothing(t *testing.T) {
	f := field(2, 2, 1, 2, 3, 0)
	if n, e := route.Cost(f, path(0, 0, 1, 0, 1, 1)); n != 0 || e != api.ErrWall {
		t.Error(n, e)
	}
	if m, e := route.Moves(path(0, 0, 1, 0, 1, 0)); len(m) != 0 || e != api.ErrForm {
		t.Error(m, e)
	}
	if m, e := route.Moves(path(plainest-1, 0, plainest, 0, plainest+1, 0)); len(m) != 0 || e != api.ErrRange {
		t.Error(m, e)
	}
	if l, e := route.Cells(f.Size, api.Cell{}, []byte{api.East, api.East}); len(l) != 0 || e != api.ErrRange {
		t.Error(l, e)
	}
	if l, e := route.Join(path(0, 0), path(1, 0)); len(l) != 0 || e != api.ErrForm {
		t.Error(l, e)
	}
}
