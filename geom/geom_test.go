package geom_test

import (
	"math"
	"slices"
	"testing"

	"gloaming/api"
	"gloaming/geom"
)

const farthest = 1048576

// numbers are at, and about, all the edges that are named.
func numbers() []int {
	return []int{math.MinInt, math.MinInt + 1, -farthest - 1, -farthest, -257, -256, -1, 0, 1, 2, 3, 4, 255, 256, 257, farthest - 1, farthest, farthest + 1, math.MaxInt - 1, math.MaxInt}
}

// maps are sizes that may be, small ones and greatest ones.
func maps() []api.Size {
	return []api.Size{{W: 1, H: 1}, {W: 1, H: 5}, {W: 4, H: 1}, {W: 4, H: 3}, {W: 256, H: 1}, {W: 1, H: 256}, {W: 256, H: 256}}
}

// wrong are sizes that may not be.
func wrong() []api.Size {
	return []api.Size{{}, {W: 0, H: 1}, {W: 1, H: 0}, {W: 257, H: 1}, {W: 1, H: 257}, {W: -1, H: 1}, {W: 1, H: -1}, {W: -3, H: -3}, {W: math.MaxInt, H: math.MaxInt}, {W: math.MinInt, H: math.MinInt}}
}

// off are cells just off a map, and far from it.
func off(s api.Size) []api.Cell {
	return []api.Cell{
		{X: -1, Y: 0}, {X: 0, Y: -1}, {X: -1, Y: -1},
		{X: s.W, Y: 0}, {X: s.W - 1, Y: -1}, {X: s.W, Y: s.H - 1},
		{X: 0, Y: s.H}, {X: -1, Y: s.H - 1}, {X: s.W - 1, Y: s.H}, {X: s.W, Y: s.H},
		{X: math.MaxInt, Y: 0}, {X: 0, Y: math.MaxInt}, {X: math.MinInt, Y: 0}, {X: 0, Y: math.MinInt},
	}
}

// all are the cells of a map, row by row.
func all(s api.Size) []api.Cell {
	var l []api.Cell
	for y := 0; y < s.H; y++ {
		for x := 0; x < s.W; x++ {
			l = append(l, api.Cell{X: x, Y: y})
		}
	}
	return l
}

// P1.1

func TestMay(t *testing.T) {
	for _, w := range numbers() {
		for _, h := range numbers() {
			want := w >= 1 && w <= 256 && h >= 1 && h <= 256
			if got := geom.May(api.Size{W: w, H: h}); got != want {
				t.Errorf("May(%d, %d) = %v", w, h, got)
			}
		}
	}
}

func TestIn(t *testing.T) {
	for _, s := range maps() {
		for _, c := range all(s) {
			if !geom.In(s, c) {
				t.Errorf("%v is not on %v", c, s)
			}
		}
		for _, c := range off(s) {
			if geom.In(s, c) {
				t.Errorf("%v is on %v", c, s)
			}
		}
	}
	for _, s := range wrong() {
		for _, c := range []api.Cell{{}, {X: -1, Y: -1}, {X: 256, Y: 256}} {
			if geom.In(s, c) {
				t.Errorf("%v is on %v, that may not be", c, s)
			}
		}
	}
}

func TestIndexAndAt(t *testing.T) {
	for _, s := range maps() {
		for n, c := range all(s) {
			if i, e := geom.Index(s, c); i != n || e != api.OK {
				t.Fatalf("Index(%v, %v) = %d, %v", s, c, i, e)
			}
			if d, e := geom.At(s, n); d != c || e != api.OK {
				t.Fatalf("At(%v, %d) = %v, %v", s, n, d, e)
			}
		}
		for _, c := range off(s) {
			if i, e := geom.Index(s, c); i != 0 || e != api.ErrRange {
				t.Errorf("Index(%v, %v) = %d, %v", s, c, i, e)
			}
		}
		for _, i := range []int{-1, s.W * s.H, s.W*s.H + 1, math.MinInt, math.MaxInt} {
			if c, e := geom.At(s, i); c != (api.Cell{}) || e != api.ErrRange {
				t.Errorf("At(%v, %d) = %v, %v", s, i, c, e)
			}
		}
	}
	for _, s := range wrong() {
		if i, e := geom.Index(s, api.Cell{}); i != 0 || e != api.ErrRange {
			t.Errorf("Index(%v) = %d, %v", s, i, e)
		}
		for _, i := range []int{-1, 0, 1, 9} {
			if c, e := geom.At(s, i); c != (api.Cell{}) || e != api.ErrRange {
				t.Errorf("At(%v, %d) = %v, %v", s, i, c, e)
			}
		}
	}
}

func TestNumbersOfTheExample(t *testing.T) {
	s := api.Size{W: 4, H: 3}
	if i, e := geom.Index(s, api.Cell{X: 2, Y: 1}); i != 6 || e != api.OK {
		t.Error(i, e)
	}
	if c, e := geom.At(s, 11); c != (api.Cell{X: 3, Y: 2}) || e != api.OK {
		t.Error(c, e)
	}
}

// P1.2

// beside is the cell beside one, its direction being told by its word.
func beside(c api.Cell, dir int) api.Cell {
	switch dir {
	case api.North:
		c.Y--
	case api.East:
		c.X++
	case api.South:
		c.Y++
	case api.West:
		c.X--
	}
	return c
}

// on tells whether a cell is on a map that may be.
func on(s api.Size, c api.Cell) bool {
	return c.X >= 0 && c.X < s.W && c.Y >= 0 && c.Y < s.H
}

func TestStep(t *testing.T) {
	for _, s := range maps() {
		for _, c := range all(s) {
			for dir := 0; dir < 4; dir++ {
				want, fault := beside(c, dir), api.OK
				if !on(s, want) {
					want, fault = api.Cell{}, api.ErrRange
				}
				if d, e := geom.Step(s, c, dir); d != want || e != fault {
					t.Fatalf("Step(%v, %v, %d) = %v, %v", s, c, dir, d, e)
				}
			}
		}
	}
}

func TestStepOfWrongThings(t *testing.T) {
	s := api.Size{W: 4, H: 3}
	for _, dir := range []int{-1, 4, 5, math.MinInt, math.MaxInt} {
		// The direction is held against first, wherever the cell is.
		for _, c := range append(off(s), api.Cell{X: 1, Y: 1}) {
			if d, e := geom.Step(s, c, dir); d != (api.Cell{}) || e != api.ErrArg {
				t.Errorf("Step(%v, %d) = %v, %v", c, dir, d, e)
			}
		}
		if d, e := geom.Step(api.Size{}, api.Cell{}, dir); d != (api.Cell{}) || e != api.ErrArg {
			t.Errorf("Step(%d) without a map = %v, %v", dir, d, e)
		}
	}
	for dir := 0; dir < 4; dir++ {
		// A cell that is off the map has no steps, not even one onto it.
		for _, c := range off(s) {
			if d, e := geom.Step(s, c, dir); d != (api.Cell{}) || e != api.ErrRange {
				t.Errorf("Step(%v, %d) = %v, %v", c, dir, d, e)
			}
		}
		for _, s := range wrong() {
			if d, e := geom.Step(s, api.Cell{}, dir); d != (api.Cell{}) || e != api.ErrRange {
				t.Errorf("Step(%v, %d) = %v, %v", s, dir, d, e)
			}
		}
	}
}

func TestBeside(t *testing.T) {
	for _, s := range maps() {
		for _, c := range all(s) {
			var want []api.Cell
			for dir := 0; dir < 4; dir++ {
				if d := beside(c, dir); on(s, d) {
					want = append(want, d)
				}
			}
			if l, e := geom.Beside(s, c); !slices.Equal(l, want) || e != api.OK {
				t.Fatalf("Beside(%v, %v) = %v, %v", s, c, l, e)
			}
		}
		for _, c := range off(s) {
			if l, e := geom.Beside(s, c); len(l) != 0 || e != api.ErrRange {
				t.Errorf("Beside(%v, %v) = %v, %v", s, c, l, e)
			}
		}
	}
	for _, s := range wrong() {
		if l, e := geom.Beside(s, api.Cell{}); len(l) != 0 || e != api.ErrRange {
			t.Errorf("Beside(%v) = %v, %v", s, l, e)
		}
	}
}

func TestBesideIsNewEachTime(t *testing.T) {
	s, c := api.Size{W: 3, H: 3}, api.Cell{X: 1, Y: 1}
	first, _ := geom.Beside(s, c)
	want := slices.Clone(first)
	for i := range first[:cap(first)] {
		first[:cap(first)][i] = api.Cell{X: 9, Y: 9}
	}
	if l, _ := geom.Beside(s, c); !slices.Equal(l, want) {
		t.Error(l)
	}
}

func TestDir(t *testing.T) {
	for _, a := range []api.Cell{{}, {X: 7, Y: 3}, {X: -4, Y: -9}, {X: farthest - 1, Y: 1 - farthest}} {
		for x := -2; x <= 2; x++ {
			for y := -2; y <= 2; y++ {
				b := api.Cell{X: a.X + x, Y: a.Y + y}
				want, fault := 0, api.ErrArg
				for dir := 0; dir < 4; dir++ {
					if beside(a, dir) == b {
						want, fault = dir, api.OK
					}
				}
				if b.X > farthest || b.Y < -farthest {
					want, fault = 0, api.ErrRange
				}
				if dir, e := geom.Dir(a, b); dir != want || e != fault {
					t.Errorf("Dir(%v, %v) = %d, %v", a, b, dir, e)
				}
			}
		}
	}
}

// edges are cells at the edge of what is plain.
func edges() []api.Cell {
	return []api.Cell{{X: farthest}, {X: -farthest}, {Y: farthest}, {Y: -farthest}, {X: farthest, Y: farthest}, {X: -farthest, Y: -farthest}}
}

// beyond are cells that are not plain.
func beyond() []api.Cell {
	var l []api.Cell
	for _, n := range []int{farthest + 1, -farthest - 1, math.MaxInt, math.MinInt} {
		l = append(l, api.Cell{X: n}, api.Cell{Y: n}, api.Cell{X: n, Y: n})
	}
	return l
}

func TestDirAtTheEdge(t *testing.T) {
	for _, a := range edges() {
		for dir := 0; dir < 4; dir++ {
			b := beside(a, dir)
			want, fault := dir, api.OK
			if max(b.X, -b.X, b.Y, -b.Y) > farthest {
				want, fault = 0, api.ErrRange
			}
			if got, e := geom.Dir(a, b); got != want || e != fault {
				t.Errorf("Dir(%v, %v) = %d, %v", a, b, got, e)
			}
			if fault == api.ErrRange {
				if got, e := geom.Dir(b, a); got != 0 || e != fault {
					t.Errorf("Dir(%v, %v) = %d, %v", b, a, got, e)
				}
			}
		}
	}
	for _, a := range beyond() {
		for _, b := range []api.Cell{a, {}, {X: 1}} {
			if d, e := geom.Dir(a, b); d != 0 || e != api.ErrRange {
				t.Errorf("Dir(%v, %v) = %d, %v", a, b, d, e)
			}
			if d, e := geom.Dir(b, a); d != 0 || e != api.ErrRange {
				t.Errorf("Dir(%v, %v) = %d, %v", b, a, d, e)
			}
		}
	}
}

func TestStepsOfTheExample(t *testing.T) {
	s := api.Size{W: 4, H: 3}
	if c, e := geom.Step(s, api.Cell{}, api.East); c != (api.Cell{X: 1}) || e != api.OK {
		t.Error(c, e)
	}
	if c, e := geom.Step(s, api.Cell{}, api.North); c != (api.Cell{}) || e != api.ErrRange {
		t.Error(c, e)
	}
}

// P1.3

func TestFarAndWalk(t *testing.T) {
	for i, c := range []struct {
		a, b      api.Cell
		far, walk int
	}{
		{api.Cell{X: 1, Y: 1}, api.Cell{X: 4, Y: 3}, 3, 5},
		{api.Cell{X: 5, Y: 5}, api.Cell{X: 5, Y: 5}, 0, 0},
		{api.Cell{X: -3, Y: 2}, api.Cell{X: 4, Y: -1}, 7, 10},
		{api.Cell{X: 2, Y: 9}, api.Cell{X: 3, Y: 1}, 8, 9},
		{api.Cell{X: -6, Y: -6}, api.Cell{X: -1, Y: -1}, 5, 10},
		{api.Cell{X: 0, Y: 7}, api.Cell{X: 0, Y: 0}, 7, 7},
		{api.Cell{X: -farthest, Y: -farthest}, api.Cell{X: farthest, Y: farthest}, 2 * farthest, 4 * farthest},
		{api.Cell{X: -farthest, Y: farthest}, api.Cell{X: -farthest, Y: 0}, farthest, farthest},
	} {
		for _, way := range [][2]api.Cell{{c.a, c.b}, {c.b, c.a}} {
			if n, e := geom.Far(way[0], way[1]); n != c.far || e != api.OK {
				t.Error(i, "far", n, e)
			}
			if n, e := geom.Walk(way[0], way[1]); n != c.walk || e != api.OK {
				t.Error(i, "walk", n, e)
			}
		}
	}
}

func TestFarAndWalkBeyond(t *testing.T) {
	for _, a := range beyond() {
		for _, b := range []api.Cell{a, {}, {X: farthest, Y: -farthest}, {X: math.MinInt, Y: math.MaxInt}} {
			for _, way := range [][2]api.Cell{{a, b}, {b, a}} {
				if n, e := geom.Far(way[0], way[1]); n != 0 || e != api.ErrRange {
					t.Errorf("Far(%v) = %d, %v", way, n, e)
				}
				if n, e := geom.Walk(way[0], way[1]); n != 0 || e != api.ErrRange {
					t.Errorf("Walk(%v) = %d, %v", way, n, e)
				}
			}
		}
	}
}

// P1.4

func TestFits(t *testing.T) {
	sizes := append(maps(), wrong()...)
	for _, s := range sizes {
		for _, b := range boxes() {
			// Nothing is added up here, so nothing wraps round.
			want := geom.May(s) && b.X >= 0 && b.Y >= 0 && b.W >= 1 && b.H >= 1 && b.X < s.W && b.Y < s.H && b.W <= s.W-b.X && b.H <= s.H-b.Y
			if got := geom.Fits(s, b); got != want {
				t.Fatalf("Fits(%v, %v) = %v", s, b, got)
			}
		}
	}
	s := api.Size{W: 256, H: 256}
	for b, want := range map[api.Box]bool{
		{W: 256, H: 256}:             true,
		{X: 255, Y: 255, W: 1, H: 1}: true,
		{X: 255, Y: 255, W: 2, H: 1}: false,
		{X: 255, Y: 255, W: 1, H: 2}: false,
		{X: 1, W: 256, H: 256}:       false,
		{W: 257, H: 1}:               false,
		{X: 3, Y: 3, W: 0, H: 1}:     false,
		{X: 3, Y: 3, W: 1, H: 0}:     false,
	} {
		if got := geom.Fits(s, b); got != want {
			t.Errorf("Fits(%v) = %v", b, got)
		}
	}
}

// boxes are boxes of all sorts, right ones and others.
func boxes() []api.Box {
	var l []api.Box
	for _, x := range numbers() {
		for _, y := range []int{math.MinInt, -farthest - 1, -farthest, -1, 0, 2, 255, farthest, farthest + 1, math.MaxInt} {
			for _, w := range []int{math.MinInt, -1, 0, 1, 3, 256, 257, math.MaxInt} {
				for _, h := range []int{math.MinInt, -1, 0, 1, 3, 256, 257, math.MaxInt} {
					l = append(l, api.Box{X: x, Y: y, W: w, H: h})
				}
			}
		}
	}
	return l
}

// fair tells whether a box is right.
func fair(b api.Box) bool {
	return b.X >= -farthest && b.X <= farthest && b.Y >= -farthest && b.Y <= farthest && b.W >= 0 && b.W <= 256 && b.H >= 0 && b.H <= 256
}

func TestHas(t *testing.T) {
	for _, b := range boxes() {
		for _, c := range []api.Cell{
			{X: b.X, Y: b.Y}, {X: b.X - 1, Y: b.Y}, {X: b.X, Y: b.Y - 1},
			{X: b.X + b.W - 1, Y: b.Y + b.H - 1}, {X: b.X + b.W, Y: b.Y}, {X: b.X, Y: b.Y + b.H},
			{}, {X: math.MinInt, Y: math.MinInt}, {X: math.MaxInt, Y: math.MaxInt}, {X: b.X, Y: math.MaxInt}, {X: math.MinInt, Y: b.Y},
		} {
			want := fair(b) && c.X >= b.X && c.X <= b.X+b.W-1 && c.Y >= b.Y && c.Y <= b.Y+b.H-1
			if got := geom.Has(b, c); got != want {
				t.Fatalf("Has(%v, %v) = %v", b, c, got)
			}
		}
	}
}

func TestCells(t *testing.T) {
	for i, c := range []struct {
		b    api.Box
		want []api.Cell
	}{
		{api.Box{X: 1, Y: 0, W: 2, H: 2}, []api.Cell{{X: 1, Y: 0}, {X: 2, Y: 0}, {X: 1, Y: 1}, {X: 2, Y: 1}}},
		{api.Box{X: -2, Y: -1, W: 3, H: 2}, []api.Cell{{X: -2, Y: -1}, {X: -1, Y: -1}, {X: 0, Y: -1}, {X: -2, Y: 0}, {X: -1, Y: 0}, {X: 0, Y: 0}}},
		{api.Box{X: farthest, Y: farthest, W: 2, H: 1}, []api.Cell{{X: farthest, Y: farthest}, {X: farthest + 1, Y: farthest}}},
		{api.Box{X: -farthest, Y: -farthest, W: 1, H: 1}, []api.Cell{{X: -farthest, Y: -farthest}}},
		{api.Box{X: 4, Y: 4}, nil},
		{api.Box{X: 4, Y: 4, W: 0, H: 256}, nil},
		{api.Box{X: 4, Y: 4, W: 256, H: 0}, nil},
	} {
		cells := geom.Cells(c.b)
		for range 2 { // it may be gone through again
			if l := slices.Collect(cells); !slices.Equal(l, c.want) {
				t.Error(i, l)
			}
		}
	}
	if l := slices.Collect(geom.Cells(api.Box{W: 256, H: 256})); !slices.Equal(l, all(api.Size{W: 256, H: 256})) {
		t.Error("the greatest box")
	}
}

func TestCellsOfWrongBoxes(t *testing.T) {
	for _, b := range boxes() {
		if fair(b) {
			continue
		}
		cells := geom.Cells(b)
		if cells == nil {
			t.Fatalf("Cells(%v) is nil", b)
		}
		for c := range cells {
			t.Fatalf("Cells(%v) has %v", b, c)
		}
	}
}

func TestCellsAreEnded(t *testing.T) {
	b := api.Box{X: 5, Y: 6, W: 3, H: 2}
	whole := slices.Collect(geom.Cells(b))
	for n := 1; n <= len(whole); n++ {
		var l []api.Cell
		geom.Cells(b)(func(c api.Cell) bool {
			l = append(l, c)
			return len(l) < n
		})
		if !slices.Equal(l, whole[:n]) {
			t.Errorf("ended behind %d: %v", n, l)
		}
	}
}

func TestCellsAreThoseItHas(t *testing.T) {
	for _, b := range []api.Box{{X: -3, Y: 2, W: 5, H: 4}, {X: 0, Y: 0, W: 1, H: 7}, {X: 250, Y: 250, W: 0, H: 3}} {
		in := map[api.Cell]bool{}
		for c := range geom.Cells(b) {
			in[c] = true
		}
		if len(in) != b.W*b.H {
			t.Error(b, len(in))
		}
		for y := b.Y - 2; y < b.Y+b.H+2; y++ {
			for x := b.X - 2; x < b.X+b.W+2; x++ {
				if c := (api.Cell{X: x, Y: y}); geom.Has(b, c) != in[c] {
					t.Error(b, c)
				}
			}
		}
	}
}

// P1.5

func TestCellsAndNumbersAreOneToOne(t *testing.T) {
	for _, s := range maps() {
		seen := map[api.Cell]bool{}
		for i := 0; i < s.W*s.H; i++ {
			c, _ := geom.At(s, i)
			if n, e := geom.Index(s, c); n != i || e != api.OK || seen[c] {
				t.Fatal(s, i, c, n, e)
			}
			seen[c] = true
		}
		if len(seen) != len(all(s)) {
			t.Error(s, len(seen))
		}
	}
}

func TestThereAndBack(t *testing.T) {
	back := [4]int{api.South, api.West, api.North, api.East}
	for _, s := range maps() {
		for _, c := range all(s) {
			for dir := 0; dir < 4; dir++ {
				d, e := geom.Step(s, c, dir)
				if e != api.OK {
					continue
				}
				if got, e := geom.Dir(c, d); got != dir || e != api.OK {
					t.Fatalf("Dir(%v, %v) = %d, %v", c, d, got, e)
				}
				if home, e := geom.Step(s, d, back[dir]); home != c || e != api.OK {
					t.Fatalf("from %v, %d and back: %v, %v", c, dir, home, e)
				}
			}
		}
	}
}

// least is the least number of steps from a cell to each one, told by going on a step at a time.
func least(s api.Size, from api.Cell) map[api.Cell]int {
	steps := map[api.Cell]int{from: 0}
	for wait := []api.Cell{from}; len(wait) > 0; wait = wait[1:] {
		l, _ := geom.Beside(s, wait[0])
		for _, c := range l {
			if _, ok := steps[c]; !ok {
				steps[c] = steps[wait[0]] + 1
				wait = append(wait, c)
			}
		}
	}
	return steps
}

func TestWalkIsLeast(t *testing.T) {
	for _, s := range []api.Size{{W: 1, H: 1}, {W: 1, H: 6}, {W: 7, H: 1}, {W: 7, H: 6}} {
		for _, a := range all(s) {
			steps := least(s, a)
			for _, b := range all(s) {
				far, _ := geom.Far(a, b)
				walk, e := geom.Walk(a, b)
				n, ok := steps[b]
				if !ok || e != api.OK || walk != n || far > walk || walk > 2*far {
					t.Errorf("from %v to %v: %d steps, Walk %d, Far %d, %v", a, b, n, walk, far, e)
				}
			}
		}
	}
}

// R1: no call panics, whatever it is given, and each one ends.
func TestAnything(t *testing.T) {
	l := []int{math.MinInt, -1, 0, 3, 256, math.MaxInt}
	for _, a := range l {
		for _, b := range l {
			for _, c := range l {
				for _, d := range l {
					s, at := api.Size{W: a, H: b}, api.Cell{X: c, Y: d}
					geom.In(s, at)
					geom.Index(s, at)
					geom.At(s, c)
					geom.Step(s, at, b)
					geom.Beside(s, at)
					geom.Dir(api.Cell{X: a, Y: b}, at)
					geom.Far(api.Cell{X: a, Y: b}, at)
					geom.Walk(api.Cell{X: a, Y: b}, at)
					box := api.Box{X: a, Y: b, W: c, H: d}
					geom.Fits(s, box)
					geom.Has(box, at)
					for range geom.Cells(box) {
					}
				}
			}
		}
	}
}
