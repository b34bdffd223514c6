package sight_test

import (
	"math"
	"slices"
	"testing"

	"gloaming/api"
	"gloaming/geom"
	"gloaming/mask"
	"gloaming/sight"
)

// maps are sizes that may be, small ones and greatest ones.
func maps() []api.Size {
	return []api.Size{{W: 1, H: 1}, {W: 1, H: 5}, {W: 4, H: 1}, {W: 4, H: 3}, {W: 3, H: 4}, {W: 9, H: 9}, {W: 256, H: 1}, {W: 1, H: 256}, {W: 256, H: 256}}
}

// wrong are sizes that may not be.
func wrong() []api.Size {
	return []api.Size{{}, {W: 0, H: 1}, {W: 1, H: 0}, {W: 257, H: 1}, {W: 1, H: 257}, {W: -1, H: 1}, {W: 1, H: -1}, {W: -3, H: -3}, {W: 1 << 32, H: 1 << 32}, {W: math.MaxInt, H: math.MaxInt}, {W: math.MinInt, H: math.MinInt}}
}

// off are cells just off a map, and far from it.
func off(s api.Size) []api.Cell {
	return []api.Cell{
		{X: -1, Y: 0}, {X: 0, Y: -1}, {X: -1, Y: -1}, {X: -1, Y: 1},
		{X: s.W, Y: 0}, {X: s.W - 1, Y: -1}, {X: s.W, Y: s.H - 1},
		{X: 0, Y: s.H}, {X: -1, Y: s.H - 1}, {X: s.W - 1, Y: s.H}, {X: s.W, Y: s.H},
		{X: math.MaxInt, Y: 0}, {X: 0, Y: math.MaxInt}, {X: math.MinInt, Y: 0}, {X: 0, Y: math.MinInt},
		{X: math.MinInt, Y: math.MaxInt}, {X: math.MaxInt, Y: math.MaxInt},
	}
}

// all are the cells of a map, row by row.
func all(s api.Size) []api.Cell {
	var l []api.Cell
	for y := range s.H {
		for x := range s.W {
			l = append(l, api.Cell{X: x, Y: y})
		}
	}
	return l
}

// ends are two corners of a map, and its middle.
func ends(s api.Size) []api.Cell {
	return []api.Cell{{}, {X: s.W - 1, Y: s.H - 1}, {X: s.W / 2, Y: s.H / 2}}
}

// even is a field of one cost.
func even(s api.Size, cost uint16) api.Field {
	return api.Field{Size: s, Cost: slices.Repeat([]uint16{cost}, s.W*s.H)}
}

// rand is numbers without a plain rule, others by each seed.
type rand uint64

// below is the next one, from 0 to n less 1.
func (r *rand) below(n int) int {
	*r = *r*6364136223846793005 + 1442695040888963407
	return int(uint64(*r) >> 33 % uint64(n))
}

// strewn is a field of which walls in 100 cells are walls, and the others have costs of all kinds.
func strewn(s api.Size, walls int, r *rand) api.Field {
	f := api.Field{Size: s}
	for range s.W * s.H {
		cost := []uint16{1, 2, 255, 256, 32768, 65535}[r.below(6)]
		if r.below(100) < walls {
			cost = 0
		}
		f.Cost = append(f.Cost, cost)
	}
	return f
}

// drawn is the field of rows, in which # is a wall.
func drawn(rows ...string) api.Field {
	f := api.Field{Size: api.Size{W: len(rows[0]), H: len(rows)}}
	for _, row := range rows {
		for _, r := range row {
			f.Cost = append(f.Cost, map[rune]uint16{'#': 0, '.': 1}[r])
		}
	}
	return f
}

// faulty are fields that are not right, and why.
func faulty() map[api.Errno][]api.Field {
	l := map[api.Errno][]api.Field{}
	for _, s := range wrong() {
		for _, n := range []int{0, 1, 9, 257} {
			l[api.ErrRange] = append(l[api.ErrRange], api.Field{Size: s, Cost: make([]uint16, n)})
		}
	}
	for _, s := range maps() {
		n := s.W * s.H
		for _, k := range []int{0, n - 1, n + 1, 2 * n} {
			l[api.ErrLong] = append(l[api.ErrLong], api.Field{Size: s, Cost: make([]uint16, k)})
		}
		l[api.ErrLong] = append(l[api.ErrLong], api.Field{Size: s})
	}
	return l
}

// plainLine is a line, read from the chapter's words.
func plainLine(a, b api.Cell) []api.Cell {
	n := plainFar(a, b)
	p := func(v int) int {
		if n == 0 {
			return 0
		}
		least := -2000 // less than any that is told here
		for 2*n*(least+1) <= 2*v+n {
			least++
		}
		return least
	}
	var l []api.Cell
	for k := 0; k <= n; k++ {
		l = append(l, api.Cell{X: a.X + p(k*(b.X-a.X)), Y: a.Y + p(k*(b.Y-a.Y))})
	}
	return l
}

// plainFar is how far two cells lie apart.
func plainFar(a, b api.Cell) int {
	return max(a.X-b.X, b.X-a.X, a.Y-b.Y, b.Y-a.Y)
}

// plainWalk is a walk, read from the chapter's words.
func plainWalk(f api.Field, a, b api.Cell) []api.Cell {
	l := plainLine(a, b)
	for k := 1; k < len(l); k++ {
		if f.Cost[l[k].Y*f.Size.W+l[k].X] == 0 {
			return l[:k+1]
		}
	}
	return l
}

// plainSeen are the cells that are seen from some, row by row, read from the chapter's words.
func plainSeen(f api.Field, radius int, l ...api.Cell) []api.Cell {
	seen := map[api.Cell]bool{}
	for _, at := range l {
		for _, to := range all(f.Size) {
			if plainFar(at, to) <= radius {
				for _, c := range plainWalk(f, at, to) {
					seen[c] = true
				}
			}
		}
	}
	var found []api.Cell
	for _, c := range all(f.Size) {
		if seen[c] {
			found = append(found, c)
		}
	}
	return found
}

// visible is the set of what is seen from a cell; it fails, if there is none.
func visible(t *testing.T, f api.Field, at api.Cell, radius int) *mask.Mask {
	t.Helper()
	m, e := sight.Visible(f, at, radius)
	if m == nil || e != api.OK {
		t.Fatalf("Visible of %v from %v, %d = %v, %v", f.Size, at, radius, m, e)
	}
	return m
}

// together is the set of what is seen from some cells; it fails, if there is none.
func together(t *testing.T, f api.Field, l []api.Cell, radius int) *mask.Mask {
	t.Helper()
	m, e := sight.All(f, l, radius)
	if m == nil || e != api.OK {
		t.Fatalf("All of %v from %v, %d = %v, %v", f.Size, l, radius, m, e)
	}
	return m
}

// holds fails, if a set is not of that size, or has not those cells.
func holds(t *testing.T, m *mask.Mask, s api.Size, want []api.Cell) {
	t.Helper()
	if m.Size() != s {
		t.Fatalf("a set of %v, not %v", m.Size(), s)
	}
	if got := slices.Collect(m.Cells()); !slices.Equal(got, want) {
		t.Fatalf("of %v: seen is %v, not %v", s, got, want)
	}
}

// within tells whether all cells of a set are in another one.
func within(m, n *mask.Mask) bool {
	for c := range m.Cells() {
		if !n.Has(c) {
			return false
		}
	}
	return true
}

// P5.1

func TestLine(t *testing.T) {
	for i, c := range []struct {
		a, b api.Cell
		want []api.Cell
	}{
		{api.Cell{}, api.Cell{X: 3, Y: 1}, []api.Cell{{}, {X: 1}, {X: 2, Y: 1}, {X: 3, Y: 1}}},
		{api.Cell{}, api.Cell{}, []api.Cell{{}}},
		{api.Cell{X: -7, Y: 9}, api.Cell{X: -7, Y: 9}, []api.Cell{{X: -7, Y: 9}}},
		// Straight, and aslant.
		{api.Cell{X: 5, Y: 5}, api.Cell{X: 5, Y: 3}, []api.Cell{{X: 5, Y: 5}, {X: 5, Y: 4}, {X: 5, Y: 3}}},
		{api.Cell{X: 5, Y: 5}, api.Cell{X: 7, Y: 5}, []api.Cell{{X: 5, Y: 5}, {X: 6, Y: 5}, {X: 7, Y: 5}}},
		{api.Cell{X: 5, Y: 5}, api.Cell{X: 5, Y: 7}, []api.Cell{{X: 5, Y: 5}, {X: 5, Y: 6}, {X: 5, Y: 7}}},
		{api.Cell{X: 5, Y: 5}, api.Cell{X: 3, Y: 5}, []api.Cell{{X: 5, Y: 5}, {X: 4, Y: 5}, {X: 3, Y: 5}}},
		{api.Cell{X: 1, Y: 1}, api.Cell{X: 3, Y: 3}, []api.Cell{{X: 1, Y: 1}, {X: 2, Y: 2}, {X: 3, Y: 3}}},
		{api.Cell{X: 1, Y: 1}, api.Cell{X: -1, Y: -1}, []api.Cell{{X: 1, Y: 1}, {}, {X: -1, Y: -1}}},
		{api.Cell{X: 1, Y: 1}, api.Cell{X: 3, Y: -1}, []api.Cell{{X: 1, Y: 1}, {X: 2, Y: 0}, {X: 3, Y: -1}}},
		// A half goes to the greater number, whatever the direction.
		{api.Cell{}, api.Cell{X: 2, Y: 1}, []api.Cell{{}, {X: 1, Y: 1}, {X: 2, Y: 1}}},
		{api.Cell{}, api.Cell{X: 2, Y: -1}, []api.Cell{{}, {X: 1, Y: 0}, {X: 2, Y: -1}}},
		{api.Cell{}, api.Cell{X: -2, Y: 1}, []api.Cell{{}, {X: -1, Y: 1}, {X: -2, Y: 1}}},
		{api.Cell{}, api.Cell{X: -2, Y: -1}, []api.Cell{{}, {X: -1, Y: 0}, {X: -2, Y: -1}}},
		{api.Cell{}, api.Cell{X: 1, Y: 2}, []api.Cell{{}, {X: 1, Y: 1}, {X: 1, Y: 2}}},
		{api.Cell{}, api.Cell{X: -1, Y: 2}, []api.Cell{{}, {X: 0, Y: 1}, {X: -1, Y: 2}}},
		{api.Cell{X: 2, Y: 1}, api.Cell{}, []api.Cell{{X: 2, Y: 1}, {X: 1, Y: 1}, {}}},
		{api.Cell{X: -3, Y: -3}, api.Cell{X: -5, Y: -4}, []api.Cell{{X: -3, Y: -3}, {X: -4, Y: -3}, {X: -5, Y: -4}}},
		// Thirds.
		{api.Cell{}, api.Cell{X: -3, Y: -1}, []api.Cell{{}, {X: -1}, {X: -2, Y: -1}, {X: -3, Y: -1}}},
		{api.Cell{}, api.Cell{X: -3, Y: 2}, []api.Cell{{}, {X: -1, Y: 1}, {X: -2, Y: 1}, {X: -3, Y: 2}}},
	} {
		if l, e := sight.Line(c.a, c.b); !slices.Equal(l, c.want) || e != api.OK {
			t.Errorf("%d: Line(%v, %v) = %v, %v, not %v", i, c.a, c.b, l, e, c.want)
		}
	}
}

func TestLinesAsTheChapterHasThem(t *testing.T) {
	for _, a := range []api.Cell{{}, {X: 7, Y: 3}, {X: -5, Y: 100}, {X: -30, Y: -31}} {
		for dx := -18; dx <= 18; dx++ {
			for dy := -18; dy <= 18; dy++ {
				b := api.Cell{X: a.X + dx, Y: a.Y + dy}
				want := plainLine(a, b)
				if l, e := sight.Line(a, b); !slices.Equal(l, want) || e != api.OK {
					t.Fatalf("Line(%v, %v) = %v, %v, not %v", a, b, l, e, want)
				}
			}
		}
	}
}

func TestLinesOfAllLengths(t *testing.T) {
	for _, a := range []api.Cell{{}, {X: -1048576, Y: 1048576}, {X: 1048576, Y: -1048576}} {
		into := api.Cell{X: 1, Y: -1} // where there are plain cells still
		if a.X > 0 {
			into = api.Cell{X: -1, Y: 1}
		}
		for n := 0; n <= 512; n++ {
			b := api.Cell{X: a.X + into.X*n, Y: a.Y + into.Y*(n/3)}
			l, e := sight.Line(a, b)
			if len(l) != n+1 || e != api.OK || l[0] != a || l[n] != b {
				t.Fatalf("Line(%v, %v) has %d cells, %v", a, b, len(l), e)
			}
			for k := 1; k <= n; k++ {
				if plainFar(l[k-1], l[k]) != 1 {
					t.Fatalf("Line(%v, %v) goes from %v to %v", a, b, l[k-1], l[k])
				}
			}
			if n%64 == 0 && !slices.Equal(l, plainLine(a, b)) {
				t.Fatalf("Line(%v, %v) = %v", a, b, l)
			}
		}
	}
}

func TestLineThatIsTooLong(t *testing.T) {
	for _, a := range []api.Cell{{}, {X: -200, Y: 77}} {
		for _, by := range []api.Cell{{X: 1}, {Y: 1}, {X: -1}, {Y: -1}, {X: 1, Y: 1}, {X: -1, Y: 1}} {
			at := func(n int) api.Cell { return api.Cell{X: a.X + by.X*n, Y: a.Y + by.Y*n} }
			if l, e := sight.Line(a, at(512)); len(l) != 513 || e != api.OK {
				t.Errorf("Line(%v, %v) has %d cells, %v", a, at(512), len(l), e)
			}
			for _, n := range []int{513, 514, 1024, 1000000} {
				if l, e := sight.Line(a, at(n)); len(l) != 0 || e != api.ErrLong {
					t.Errorf("Line(%v, %v) has %d cells, %v", a, at(n), len(l), e)
				}
			}
		}
	}
	// Not both together: 400 and 400 are 400 apart.
	if l, e := sight.Line(api.Cell{}, api.Cell{X: 400, Y: -400}); len(l) != 401 || e != api.OK {
		t.Error(len(l), e)
	}
	// As far as plain cells may be.
	if l, e := sight.Line(api.Cell{X: -1048576, Y: -1048576}, api.Cell{X: 1048576, Y: 1048576}); len(l) != 0 || e != api.ErrLong {
		t.Error(len(l), e)
	}
}

func TestLineOfCellsThatAreNotPlain(t *testing.T) {
	for _, far := range []int{1048577, -1048577, 1 << 32, math.MaxInt, math.MinInt} {
		for _, c := range []api.Cell{{X: far}, {Y: far}, {X: far, Y: far}, {X: far, Y: -1048576}} {
			// That comes ahead of how long the line is.
			for _, d := range []api.Cell{{}, {X: 1048576, Y: 1048576}, {X: 1048576, Y: -1048576}, {X: -1048576}, c, {X: math.MinInt}} {
				if l, e := sight.Line(c, d); len(l) != 0 || e != api.ErrRange {
					t.Errorf("Line(%v, %v) has %d cells, %v", c, d, len(l), e)
				}
				if l, e := sight.Line(d, c); len(l) != 0 || e != api.ErrRange {
					t.Errorf("Line(%v, %v) has %d cells, %v", d, c, len(l), e)
				}
			}
		}
	}
}

func TestLinesAreNewEachTime(t *testing.T) {
	a, b := api.Cell{}, api.Cell{X: 5, Y: 2}
	first, _ := sight.Line(a, b)
	next, _ := sight.Line(a, b)
	for i := range first[:cap(first)] {
		first[:cap(first)][i] = api.Cell{X: 99}
	}
	third, _ := sight.Line(a, b)
	if want := plainLine(a, b); !slices.Equal(next, want) || !slices.Equal(third, want) {
		t.Error(next, third)
	}
}

// P5.2

func TestWalk(t *testing.T) {
	for i, c := range []struct {
		f    api.Field
		a, b api.Cell
		want []api.Cell
		sees bool
	}{
		{drawn("....", "...."), api.Cell{}, api.Cell{X: 3, Y: 1}, []api.Cell{{}, {X: 1}, {X: 2, Y: 1}, {X: 3, Y: 1}}, true},
		{drawn(".#..", "...."), api.Cell{}, api.Cell{X: 3, Y: 1}, []api.Cell{{}, {X: 1}}, false},
		{drawn("..#.", ".#.."), api.Cell{}, api.Cell{X: 3, Y: 1}, []api.Cell{{}, {X: 1}, {X: 2, Y: 1}, {X: 3, Y: 1}}, true},
		// The first of two walls.
		{drawn(".#.#."), api.Cell{}, api.Cell{X: 4}, []api.Cell{{}, {X: 1}}, false},
		{drawn(".#.#."), api.Cell{X: 4}, api.Cell{}, []api.Cell{{X: 4}, {X: 3}}, false},
		{drawn(".##."), api.Cell{}, api.Cell{X: 3}, []api.Cell{{}, {X: 1}}, false},
		// The end is a wall; it is seen, but not the one behind it.
		{drawn("..#."), api.Cell{}, api.Cell{X: 2}, []api.Cell{{}, {X: 1}, {X: 2}}, true},
		{drawn("..#."), api.Cell{}, api.Cell{X: 3}, []api.Cell{{}, {X: 1}, {X: 2}}, false},
		{drawn(".#"), api.Cell{}, api.Cell{X: 1}, []api.Cell{{}, {X: 1}}, true},
		// The beginning is a wall.
		{drawn("#..."), api.Cell{}, api.Cell{X: 3}, []api.Cell{{}, {X: 1}, {X: 2}, {X: 3}}, true},
		{drawn("#..."), api.Cell{}, api.Cell{}, []api.Cell{{}}, true},
		{drawn("##.."), api.Cell{}, api.Cell{X: 3}, []api.Cell{{}, {X: 1}}, false},
		{drawn("##.."), api.Cell{}, api.Cell{X: 1}, []api.Cell{{}, {X: 1}}, true},
		{drawn("#"), api.Cell{}, api.Cell{}, []api.Cell{{}}, true},
		{drawn("."), api.Cell{}, api.Cell{}, []api.Cell{{}}, true},
		// One goes between two walls that touch with their corners.
		{drawn(".#.", "#..", "..."), api.Cell{}, api.Cell{X: 2, Y: 2}, []api.Cell{{}, {X: 1, Y: 1}, {X: 2, Y: 2}}, true},
		// A line back is not the line there, turned round.
		{drawn("....", ".#..", "...."), api.Cell{}, api.Cell{X: 2, Y: 1}, []api.Cell{{}, {X: 1, Y: 1}}, false},
		{drawn("....", ".#..", "...."), api.Cell{X: 3}, api.Cell{X: 0, Y: 1}, []api.Cell{{X: 3}, {X: 2}, {X: 1, Y: 1}}, false},
		{drawn("....", ".#..", "...."), api.Cell{Y: 2}, api.Cell{X: 2, Y: 1}, []api.Cell{{Y: 2}, {X: 1, Y: 2}, {X: 2, Y: 1}}, true},
		{drawn("....", ".#..", "...."), api.Cell{X: 2, Y: 1}, api.Cell{Y: 2}, []api.Cell{{X: 2, Y: 1}, {X: 1, Y: 2}, {Y: 2}}, true},
	} {
		if l, e := sight.Walk(c.f, c.a, c.b); !slices.Equal(l, c.want) || e != api.OK {
			t.Errorf("%d: Walk from %v to %v = %v, %v, not %v", i, c.a, c.b, l, e, c.want)
		}
		if is, e := sight.Sees(c.f, c.a, c.b); is != c.sees || e != api.OK {
			t.Errorf("%d: Sees from %v to %v = %v, %v", i, c.a, c.b, is, e)
		}
	}
}

func TestWalksAsTheChapterHasThem(t *testing.T) {
	r := rand(1)
	for _, s := range []api.Size{{W: 1, H: 1}, {W: 1, H: 7}, {W: 7, H: 1}, {W: 8, H: 5}, {W: 5, H: 8}, {W: 9, H: 9}} {
		for _, walls := range []int{0, 10, 30, 60, 100} {
			f := strewn(s, walls, &r)
			for _, a := range all(s) {
				for _, b := range all(s) {
					want := plainWalk(f, a, b)
					if l, e := sight.Walk(f, a, b); !slices.Equal(l, want) || e != api.OK {
						t.Fatalf("of %v: Walk from %v to %v = %v, %v, not %v", f, a, b, l, e, want)
					}
					if is, e := sight.Sees(f, a, b); is != (want[len(want)-1] == b) || e != api.OK {
						t.Fatalf("of %v: Sees from %v to %v = %v, %v", f, a, b, is, e)
					}
				}
			}
		}
	}
}

func TestWalkOverTheGreatestMap(t *testing.T) {
	s := api.Size{W: 256, H: 256}
	f := even(s, 1)
	for _, a := range []api.Cell{{}, {X: 255}, {Y: 255}, {X: 255, Y: 255}, {X: 100, Y: 31}} {
		for _, b := range []api.Cell{{}, {X: 255}, {Y: 255}, {X: 255, Y: 255}, {X: 254, Y: 127}} {
			want := plainLine(a, b)
			if l, e := sight.Walk(f, a, b); !slices.Equal(l, want) || e != api.OK {
				t.Errorf("Walk from %v to %v = %v, %v", a, b, l, e)
			}
		}
	}
	for _, cost := range []uint16{1, 255, 256, 32768, 65535, 0} { // a cost is a wall, only if all of it is 0
		f.Cost[100] = cost
		if is, e := sight.Sees(f, api.Cell{}, api.Cell{X: 255}); is != (cost != 0) || e != api.OK {
			t.Error(cost, is, e)
		}
	}
	if l, e := sight.Walk(f, api.Cell{}, api.Cell{X: 255}); len(l) != 101 || e != api.OK {
		t.Error(len(l), e)
	}
}

func TestWalkOffTheMap(t *testing.T) {
	for _, s := range maps() {
		f := even(s, 0)
		for _, c := range off(s) {
			for _, d := range append(ends(s), c) {
				for _, way := range [][2]api.Cell{{c, d}, {d, c}} {
					if l, e := sight.Walk(f, way[0], way[1]); len(l) != 0 || e != api.ErrRange {
						t.Errorf("of %v: Walk from %v to %v = %v, %v", s, way[0], way[1], l, e)
					}
					if is, e := sight.Sees(f, way[0], way[1]); is || e != api.ErrRange {
						t.Errorf("of %v: Sees from %v to %v = %v, %v", s, way[0], way[1], is, e)
					}
				}
			}
		}
	}
}

func TestWalkOfWrongFields(t *testing.T) {
	for fault, l := range faulty() {
		for _, f := range l {
			// The field is held against first, wherever the cells are.
			for _, c := range append(off(api.Size{W: 1, H: 1}), api.Cell{}) {
				if l, e := sight.Walk(f, c, api.Cell{}); len(l) != 0 || e != fault {
					t.Fatalf("of %v with %d costs: Walk from %v = %v, %v", f.Size, len(f.Cost), c, l, e)
				}
				if l, e := sight.Walk(f, api.Cell{}, c); len(l) != 0 || e != fault {
					t.Fatalf("of %v with %d costs: Walk to %v = %v, %v", f.Size, len(f.Cost), c, l, e)
				}
				if is, e := sight.Sees(f, c, c); is || e != fault {
					t.Fatalf("of %v with %d costs: Sees from %v = %v, %v", f.Size, len(f.Cost), c, is, e)
				}
			}
		}
	}
}

func TestWalksAreNewEachTime(t *testing.T) {
	f, a, b := drawn("......", "......", "......"), api.Cell{}, api.Cell{X: 5, Y: 2}
	first, _ := sight.Walk(f, a, b)
	next, _ := sight.Walk(f, a, b)
	for i := range first[:cap(first)] {
		first[:cap(first)][i] = api.Cell{X: 99}
	}
	third, _ := sight.Walk(f, a, b)
	if want := plainLine(a, b); !slices.Equal(next, want) || !slices.Equal(third, want) {
		t.Error(next, third)
	}
}

// P5.3

func TestVisible(t *testing.T) {
	f := drawn(
		".....",
		".#...",
		"..#..",
		".....",
	)
	for i, c := range []struct {
		at     api.Cell
		radius int
		want   []string
	}{
		{api.Cell{}, 0, []string{"x....", ".....", ".....", "....."}},
		{api.Cell{}, 1, []string{"xx...", "xx...", ".....", "....."}},
		{api.Cell{}, 2, []string{"xxx..", "xx...", "x....", "....."}},
		{api.Cell{}, 4, []string{"xxxxx", "xxxxx", "xx...", "xx..."}},
		{api.Cell{X: 2, Y: 2}, 1, []string{".....", ".xxx.", ".xxx.", ".xxx."}},
		{api.Cell{X: 2, Y: 2}, 2, []string{".xxxx", "xxxxx", "xxxxx", "xxxxx"}},
	} {
		var want []api.Cell
		for y, row := range c.want {
			for x, r := range row {
				if r == 'x' {
					want = append(want, api.Cell{X: x, Y: y})
				}
			}
		}
		if got := plainSeen(f, c.radius, c.at); !slices.Equal(got, want) {
			t.Fatalf("%d: the plain reading tells %v, not %v", i, got, want)
		}
		holds(t, visible(t, f, c.at, c.radius), f.Size, want)
	}
}

func TestVisibleIsWhatIsMetUnderWay(t *testing.T) {
	// The line to (2, 1) ends at the wall, but those to (3, 1) and (3, 2) go by it.
	f := drawn("....", ".#..", "....")
	a, b := api.Cell{}, api.Cell{X: 2, Y: 1}
	if is, e := sight.Sees(f, a, b); is || e != api.OK {
		t.Error(is, e)
	}
	if visible(t, f, a, 2).Has(b) {
		t.Error("seen, though no line so far meets it")
	}
	if !visible(t, f, a, 3).Has(b) {
		t.Error("not seen, though a line to a cell behind it meets it")
	}
}

func TestVisibleAsTheChapterHasIt(t *testing.T) {
	r := rand(2)
	for _, s := range []api.Size{{W: 1, H: 1}, {W: 1, H: 6}, {W: 6, H: 1}, {W: 7, H: 4}, {W: 4, H: 7}, {W: 8, H: 8}} {
		for _, walls := range []int{0, 10, 30, 60, 100} {
			f := strewn(s, walls, &r)
			for _, at := range all(s) {
				for _, radius := range []int{0, 1, 2, 3, 5, 7, 16} {
					holds(t, visible(t, f, at, radius), s, plainSeen(f, radius, at))
				}
			}
		}
	}
}

func TestVisibleOfGreatMaps(t *testing.T) {
	r := rand(3)
	for _, s := range []api.Size{{W: 40, H: 37}, {W: 256, H: 2}, {W: 3, H: 256}} {
		f := strewn(s, 15, &r)
		for _, at := range append(ends(s), api.Cell{X: s.W - 1}, api.Cell{Y: s.H - 1}, api.Cell{X: s.W / 3, Y: s.H / 3}) {
			for _, radius := range []int{15, 16} {
				holds(t, visible(t, f, at, radius), s, plainSeen(f, radius, at))
			}
		}
	}
}

func TestAll(t *testing.T) {
	r := rand(4)
	for _, s := range []api.Size{{W: 1, H: 1}, {W: 9, H: 1}, {W: 7, H: 5}, {W: 30, H: 20}} {
		for _, walls := range []int{0, 20, 50} {
			f := strewn(s, walls, &r)
			for n := range 9 {
				var l []api.Cell
				for range n {
					l = append(l, api.Cell{X: r.below(s.W), Y: r.below(s.H)})
				}
				radius := r.below(17)
				want := plainSeen(f, radius, l...)
				m := together(t, f, l, radius)
				holds(t, m, s, want)
				// In whatever order, and however often they are in the list.
				back := slices.Concat(l, l)
				slices.Reverse(back)
				holds(t, together(t, f, back, radius), s, want)
				// And one by one.
				one, _ := mask.New(s)
				for _, at := range l {
					one.Add(visible(t, f, at, radius))
				}
				if !m.Same(one) {
					t.Errorf("of %v from %v, %d: not what is seen one by one", s, l, radius)
				}
			}
		}
	}
}

func TestAllOfNone(t *testing.T) {
	for _, s := range maps() {
		for _, radius := range []int{0, 1, 16} {
			for _, l := range [][]api.Cell{nil, {}} {
				holds(t, together(t, even(s, 1), l, radius), s, nil)
			}
		}
	}
}

func TestAllOfALongList(t *testing.T) {
	// It ends soon, too, if a cell is in the list a million times.
	s := api.Size{W: 40, H: 40}
	l := slices.Repeat([]api.Cell{{X: 20, Y: 20}}, 1<<20)
	holds(t, together(t, even(s, 1), l, 16), s, plainSeen(even(s, 1), 16, l[0]))
}

func TestWrongRadius(t *testing.T) {
	for _, s := range maps() {
		f := even(s, 1)
		for _, radius := range []int{-1, -16, 17, 18, 256, 1 << 32, math.MaxInt, math.MinInt} {
			// The radius is held against ahead of the cells.
			for _, c := range append(off(s), ends(s)...) {
				if m, e := sight.Visible(f, c, radius); m != nil || e != api.ErrArg {
					t.Errorf("of %v: Visible from %v, %d = %v, %v", s, c, radius, m, e)
				}
				if m, e := sight.All(f, []api.Cell{{}, c}, radius); m != nil || e != api.ErrArg {
					t.Errorf("of %v: All from %v, %d = %v, %v", s, c, radius, m, e)
				}
			}
			if m, e := sight.All(f, nil, radius); m != nil || e != api.ErrArg {
				t.Errorf("of %v: All from none, %d = %v, %v", s, radius, m, e)
			}
		}
		for radius := range 17 {
			if m, e := sight.Visible(f, api.Cell{}, radius); m == nil || e != api.OK {
				t.Errorf("of %v: Visible, %d = %v, %v", s, radius, m, e)
			}
		}
	}
}

func TestVisibleOffTheMap(t *testing.T) {
	for _, s := range maps() {
		f := even(s, 1)
		for _, c := range off(s) {
			for _, radius := range []int{0, 1, 16} {
				if m, e := sight.Visible(f, c, radius); m != nil || e != api.ErrRange {
					t.Errorf("of %v: Visible from %v, %d = %v, %v", s, c, radius, m, e)
				}
				for _, l := range [][]api.Cell{{c}, {c, {}}, {{}, c}, {{}, c, {}}, {c, c}} {
					if m, e := sight.All(f, l, radius); m != nil || e != api.ErrRange {
						t.Errorf("of %v: All from %v, %d = %v, %v", s, l, radius, m, e)
					}
				}
			}
		}
	}
}

func TestVisibleOfWrongFields(t *testing.T) {
	for fault, l := range faulty() {
		for _, f := range l {
			// The field is held against first, whatever the radius, and wherever the cells are.
			for _, radius := range []int{-1, 0, 16, 17} {
				for _, c := range []api.Cell{{}, {X: -1}, {X: 256, Y: 256}, {X: math.MaxInt, Y: math.MinInt}} {
					if m, e := sight.Visible(f, c, radius); m != nil || e != fault {
						t.Errorf("of %v with %d costs: Visible from %v, %d = %v, %v", f.Size, len(f.Cost), c, radius, m, e)
					}
					if m, e := sight.All(f, []api.Cell{c}, radius); m != nil || e != fault {
						t.Errorf("of %v with %d costs: All from %v, %d = %v, %v", f.Size, len(f.Cost), c, radius, m, e)
					}
				}
				if m, e := sight.All(f, nil, radius); m != nil || e != fault {
					t.Errorf("of %v with %d costs: All from none, %d = %v, %v", f.Size, len(f.Cost), radius, m, e)
				}
			}
		}
	}
}

func TestNothingIsWrittenInto(t *testing.T) {
	costs := []uint16{1, 0, 3, 4, 5, 0, 77, 0}
	cells := []api.Cell{{X: 2, Y: 1}, {}, {}, {X: 9, Y: 9}}
	f := api.Field{Size: api.Size{W: 3, H: 2}, Cost: costs[:6]}
	sight.Walk(f, api.Cell{}, api.Cell{X: 2, Y: 1})
	sight.Sees(f, api.Cell{}, api.Cell{X: 2, Y: 1})
	visible(t, f, api.Cell{}, 3)
	together(t, f, cells[:3], 3)
	if !slices.Equal(costs, []uint16{1, 0, 3, 4, 5, 0, 77, 0}) {
		t.Error(costs)
	}
	if !slices.Equal(cells, []api.Cell{{X: 2, Y: 1}, {}, {}, {X: 9, Y: 9}}) {
		t.Error(cells)
	}
}

func TestSetsAreNewEachTime(t *testing.T) {
	f := drawn("...", "...", "...")
	want := plainSeen(f, 1, api.Cell{})
	first, next := visible(t, f, api.Cell{}, 1), visible(t, f, api.Cell{}, 1)
	first.Set(api.Cell{X: 2, Y: 2}, true)
	holds(t, next, f.Size, want)
	first, next = together(t, f, []api.Cell{{}}, 1), together(t, f, []api.Cell{{}}, 1)
	first.Set(api.Cell{}, false)
	holds(t, next, f.Size, want)
	f.Cost[1] = 0
	holds(t, next, f.Size, want)
}

// P5.4

func TestWhatIsVisibleHangsOnVisibleCellsAlone(t *testing.T) {
	r := rand(5)
	for _, s := range []api.Size{{W: 6, H: 5}, {W: 12, H: 12}, {W: 25, H: 3}} {
		for _, walls := range []int{10, 30, 60} {
			for range 12 {
				f := strewn(s, walls, &r)
				at, radius := api.Cell{X: r.below(s.W), Y: r.below(s.H)}, r.below(17)
				m := visible(t, f, at, radius)
				for _, unseen := range []int{0, 50, 100} {
					other := strewn(s, unseen, &r)
					for i, c := range all(s) {
						if m.Has(c) {
							other.Cost[i] = f.Cost[i]
						}
					}
					if !visible(t, other, at, radius).Same(m) {
						t.Fatalf("of %v from %v, %d: what is not seen turns what is", f, at, radius)
					}
				}
			}
		}
	}
}

func TestACellAndThoseBesideItAreVisible(t *testing.T) {
	r := rand(6)
	for _, s := range []api.Size{{W: 1, H: 1}, {W: 5, H: 1}, {W: 5, H: 4}} {
		for _, walls := range []int{0, 50, 100} {
			f := strewn(s, walls, &r)
			for _, at := range all(s) {
				for radius := range 17 {
					m := visible(t, f, at, radius)
					if !m.Has(at) {
						t.Errorf("of %v, %d: %v is not seen from itself", f, radius, at)
					}
					beside, _ := geom.Beside(s, at)
					for _, c := range beside {
						if m.Has(c) != (radius >= 1) {
							t.Errorf("of %v, %d: from %v, %v is seen: %v", f, radius, at, c, m.Has(c))
						}
					}
				}
			}
		}
	}
}

func TestWithoutWallsAllIsVisible(t *testing.T) {
	for _, s := range []api.Size{{W: 1, H: 1}, {W: 1, H: 20}, {W: 20, H: 1}, {W: 7, H: 5}, {W: 40, H: 37}, {W: 256, H: 256}} {
		for _, cost := range []uint16{1, 65535} {
			f := even(s, cost)
			for _, at := range append(ends(s), api.Cell{X: s.W - 1}, api.Cell{Y: s.H - 1}) {
				for _, radius := range []int{0, 1, 2, 9, 16} {
					var want []api.Cell
					for _, c := range all(s) {
						if plainFar(at, c) <= radius {
							want = append(want, c)
						}
					}
					holds(t, visible(t, f, at, radius), s, want)
				}
			}
		}
	}
}

func TestNoFartherThanTheRadius(t *testing.T) {
	r := rand(7)
	s := api.Size{W: 30, H: 30}
	for _, walls := range []int{5, 20, 40} {
		f := strewn(s, walls, &r)
		for radius := range 17 {
			at := api.Cell{X: r.below(30), Y: r.below(30)}
			for c := range visible(t, f, at, radius).Cells() {
				if plainFar(at, c) > radius {
					t.Errorf("from %v, %d: %v is seen", at, radius, c)
				}
			}
		}
	}
}

func TestAGreaterRadiusSeesNoLess(t *testing.T) {
	r := rand(8)
	s := api.Size{W: 24, H: 20}
	for _, walls := range []int{0, 10, 30} {
		for range 6 {
			f := strewn(s, walls, &r)
			l := []api.Cell{{X: r.below(s.W), Y: r.below(s.H)}, {X: r.below(s.W), Y: r.below(s.H)}}
			for radius := range 16 {
				if !within(together(t, f, l, radius), together(t, f, l, radius+1)) {
					t.Errorf("from %v, %d sees more than %d", l, radius, radius+1)
				}
			}
		}
	}
}

func TestFewerWallsSeeNoLess(t *testing.T) {
	r := rand(9)
	s := api.Size{W: 14, H: 15}
	for range 12 {
		f := strewn(s, 60, &r)
		at, radius := api.Cell{X: r.below(s.W), Y: r.below(s.H)}, 1+r.below(16)
		m := visible(t, f, at, radius)
		for range 10 {
			for range 10 { // ten cells are walls no more
				f.Cost[r.below(len(f.Cost))] = 1
			}
			more := visible(t, f, at, radius)
			if !within(m, more) {
				t.Fatalf("from %v, %d: with fewer walls, one sees less", at, radius)
			}
			m = more
		}
	}
}
