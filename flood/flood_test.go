package flood_test

import (
	"math"
	"slices"
	"testing"

	"gloaming/api"
	"gloaming/flood"
	"gloaming/sat"
)

const inf = uint64(sat.Inf)

// wrong are sizes that may not be.
func wrong() []api.Size {
	return []api.Size{{}, {W: 0, H: 1}, {W: 1, H: 0}, {W: 257, H: 1}, {W: 1, H: 257}, {W: -1, H: 1}, {W: 1, H: -1}, {W: -3, H: -3}, {W: 1 << 32, H: 1 << 32}, {W: math.MaxInt, H: math.MaxInt}, {W: math.MinInt, H: math.MinInt}}
}

// off are cells just off a box, and far from it.
func off(b api.Box) []api.Cell {
	right, low := b.X+b.W, b.Y+b.H
	return []api.Cell{
		{X: b.X - 1, Y: b.Y}, {X: b.X, Y: b.Y - 1}, {X: b.X - 1, Y: b.Y - 1},
		{X: right, Y: b.Y}, {X: right - 1, Y: b.Y - 1}, {X: right, Y: low - 1},
		{X: b.X, Y: low}, {X: b.X - 1, Y: low - 1}, {X: right - 1, Y: low}, {X: right, Y: low},
		{X: math.MaxInt, Y: b.Y}, {X: b.X, Y: math.MaxInt}, {X: math.MinInt, Y: b.Y}, {X: b.X, Y: math.MinInt},
		{X: math.MinInt, Y: math.MaxInt}, {X: math.MaxInt, Y: math.MaxInt},
	}
}

// unfit are boxes that do not lie on a map.
func unfit(s api.Size) []api.Box {
	l := []api.Box{
		{}, {W: 1}, {H: 1}, {W: 0, H: s.H}, {W: s.W, H: 0}, {W: -1, H: 1}, {W: 1, H: -1}, {X: s.W, W: -1, H: 1}, {Y: s.H, W: 1, H: -1},
		{W: s.W + 1, H: 1}, {W: 1, H: s.H + 1}, {W: s.W + 1, H: s.H + 1}, {W: 257, H: 1}, {W: 1, H: 257},
		{X: -1, W: 1, H: 1}, {Y: -1, W: 1, H: 1}, {X: -1, W: s.W, H: s.H}, {Y: -1, W: s.W, H: s.H}, {X: -1, W: 2, H: 1},
		{X: 1, W: s.W, H: s.H}, {Y: 1, W: s.W, H: s.H}, {X: s.W, W: 1, H: 1}, {Y: s.H, W: 1, H: 1}, {X: s.W - 1, W: 2, H: 1}, {Y: s.H - 1, W: 1, H: 2},
		{X: 1048577, W: 1, H: 1}, {Y: -1048577, W: 1, H: 1},
	}
	for _, n := range []int{math.MaxInt, math.MinInt, 1 << 32, -(1 << 32)} {
		l = append(l, api.Box{X: n, W: 1, H: 1}, api.Box{Y: n, W: 1, H: 1}, api.Box{W: n, H: 1}, api.Box{W: 1, H: n}, api.Box{X: n, Y: n, W: n, H: n})
	}
	return l
}

// whole is the box of all of a map.
func whole(s api.Size) api.Box {
	return api.Box{W: s.W, H: s.H}
}

// boxes are all boxes that lie on a map.
func boxes(s api.Size) []api.Box {
	var l []api.Box
	for y := range s.H {
		for x := range s.W {
			for h := 1; y+h <= s.H; h++ {
				for w := 1; x+w <= s.W; w++ {
					l = append(l, api.Box{X: x, Y: y, W: w, H: h})
				}
			}
		}
	}
	return l
}

// cells are those of a box, row by row.
func cells(b api.Box) []api.Cell {
	var l []api.Cell
	for y := range b.H {
		for x := range b.W {
			l = append(l, api.Cell{X: b.X + x, Y: b.Y + y})
		}
	}
	return l
}

// has tells whether a cell lies in a box.
func has(b api.Box, c api.Cell) bool {
	return b.X <= c.X && c.X < b.X+b.W && b.Y <= c.Y && c.Y < b.Y+b.H
}

// around are the cells beside one, by directions, be they on a map or not.
func around(c api.Cell) []api.Cell {
	return []api.Cell{{X: c.X, Y: c.Y - 1}, {X: c.X + 1, Y: c.Y}, {X: c.X, Y: c.Y + 1}, {X: c.X - 1, Y: c.Y}}
}

// at is a cell's number.
func at(f api.Field, c api.Cell) int {
	return c.Y*f.Size.W + c.X
}

// cost is a cell's cost.
func cost(f api.Field, c api.Cell) uint64 {
	return uint64(f.Cost[at(f, c)])
}

// field is one of costs that are told row by row.
func field(w, h int, costs ...uint16) api.Field {
	return api.Field{Size: api.Size{W: w, H: h}, Cost: costs}
}

// even is a field of one cost.
func even(s api.Size, cost uint16) api.Field {
	return api.Field{Size: s, Cost: slices.Repeat([]uint16{cost}, s.W*s.H)}
}

// rand is numbers without a plain rule, others by each seed.
type rand uint64

// below is the next one, from 0 to n less 1.
func (r *rand) below(n int) int {
	*r = *r*6364136223846793005 + 1442695040888963407
	return int(uint64(*r) >> 33 % uint64(n))
}

// strewn is a field of which walls in 100 cells are walls, and the others have costs from a list.
func strewn(s api.Size, walls int, costs []uint16, r *rand) api.Field {
	f := api.Field{Size: s}
	for range s.W * s.H {
		cost := costs[r.below(len(costs))]
		if r.below(100) < walls {
			cost = 0
		}
		f.Cost = append(f.Cost, cost)
	}
	return f
}

// few and many are costs by which often, and seldom, several ways cost the same.
func few() []uint16  { return []uint16{1, 2, 3} }
func many() []uint16 { return []uint16{1, 2, 255, 256, 32767, 32768, 65534, 65535, 7, 1000, 40000} }

// worlds are fields of all kinds, none of them great.
func worlds() []api.Field {
	r := rand(1)
	var l []api.Field
	for _, s := range []api.Size{{W: 1, H: 1}, {W: 1, H: 6}, {W: 6, H: 1}, {W: 2, H: 2}, {W: 4, H: 3}, {W: 3, H: 5}, {W: 5, H: 5}} {
		for _, walls := range []int{0, 20, 45} {
			for range 3 {
				l = append(l, strewn(s, walls, few(), &r), strewn(s, walls, many(), &r))
			}
		}
		l = append(l, even(s, 0), even(s, 1), even(s, 65535))
	}
	return l
}

// faulty are fields that are not right, and why.
func faulty() map[api.Errno][]api.Field {
	l := map[api.Errno][]api.Field{}
	for _, s := range wrong() {
		// The size is held against first, however many costs there are.
		for _, n := range []int{0, 1, 9, 257} {
			l[api.ErrRange] = append(l[api.ErrRange], api.Field{Size: s, Cost: make([]uint16, n)})
		}
	}
	for _, s := range []api.Size{{W: 1, H: 1}, {W: 4, H: 3}, {W: 256, H: 1}, {W: 1, H: 256}, {W: 256, H: 256}} {
		n := s.W * s.H
		for _, k := range []int{0, n - 1, n + 1, 2 * n} {
			l[api.ErrLong] = append(l[api.ErrLong], api.Field{Size: s, Cost: make([]uint16, k)})
		}
		l[api.ErrLong] = append(l[api.ErrLong], api.Field{Size: s})
	}
	return l
}

// plainFar is how far each cell is, by the chapter's words: each cell is as far as the nearest one beside it, and its own cost, together; till nothing is told anew.
func plainFar(f api.Field, b api.Box, from api.Cell) []uint64 {
	far := slices.Repeat([]uint64{inf}, len(f.Cost))
	if cost(f, from) == 0 {
		return far
	}
	far[at(f, from)] = 0
	for again := true; again; {
		again = false
		for _, c := range cells(b) {
			for _, n := range around(c) {
				if cost(f, c) == 0 || !has(b, n) || far[at(f, n)] == inf {
					continue
				}
				if next := far[at(f, n)] + cost(f, c); next < far[at(f, c)] {
					far[at(f, c)], again = next, true
				}
			}
		}
	}
	return far
}

// goAll calls tell with all ways from a cell that go nowhere twice, and with what each costs.
func goAll(f api.Field, b api.Box, from api.Cell, tell func(way []api.Cell, costs uint64)) {
	if cost(f, from) == 0 {
		return
	}
	var on func(way []api.Cell, costs uint64)
	on = func(way []api.Cell, costs uint64) {
		tell(way, costs)
		for _, n := range around(way[len(way)-1]) {
			if has(b, n) && cost(f, n) > 0 && !slices.Contains(way, n) {
				on(append(slices.Clone(way), n), costs+cost(f, n))
			}
		}
	}
	on([]api.Cell{from}, 0)
}

// plainPath is the path to a cell that is reached, read from the chapter's words.
func plainPath(f api.Field, b api.Box, from, to api.Cell, far []uint64) []api.Cell {
	l := []api.Cell{to}
	for c := to; c != from; {
		i := slices.IndexFunc(around(c), func(n api.Cell) bool {
			return has(b, n) && far[at(f, n)] == far[at(f, c)]-cost(f, c)
		})
		c = around(c)[i]
		l = append([]api.Cell{c}, l...)
	}
	return l
}

// within is what Within tells; it fails, if that is an error, or not as many as cells.
func within(t *testing.T, f api.Field, b api.Box, from api.Cell) []uint64 {
	t.Helper()
	far, e := flood.Within(f, b, from)
	if e != api.OK || len(far) != f.Size.W*f.Size.H {
		t.Fatalf("Within(%v, %v, %v) = %d costs, %v", f, b, from, len(far), e)
	}
	return far
}

// refused fails, if not all calls tell an error, and nothing beside it.
func refused(t *testing.T, f api.Field, b api.Box, from, to api.Cell, fault api.Errno) {
	t.Helper()
	if far, e := flood.Within(f, b, from); len(far) != 0 || e != fault {
		t.Errorf("of %v: Within(%v, %v) = %v, %v", f.Size, b, from, far, e)
	}
	pathless(t, f, b, from, to, fault)
}

// pathless fails, if Path does not tell an error, and nothing beside it.
func pathless(t *testing.T, f api.Field, b api.Box, from, to api.Cell, fault api.Errno) {
	t.Helper()
	if l, costs, e := flood.Path(f, b, from, to); len(l) != 0 || costs != 0 || e != fault {
		t.Errorf("of %v: Path(%v, %v, %v) = %v, %d, %v", f.Size, b, from, to, l, costs, e)
	}
}

// P8.1

func TestWithinOfTheExample(t *testing.T) {
	f := field(3, 2, 1, 2, 1, 1, 9, 1)
	want := []uint64{0, 2, 3, 1, 10, 4}
	if far := within(t, f, whole(f.Size), api.Cell{}); !slices.Equal(far, want) {
		t.Error(far)
	}
	if far, e := flood.From(f, api.Cell{}); !slices.Equal(far, want) || e != api.OK {
		t.Error(far, e)
	}
}

func TestWithinOfAllWays(t *testing.T) {
	for _, s := range []api.Size{{W: 1, H: 1}, {W: 3, H: 1}, {W: 1, H: 3}, {W: 2, H: 2}, {W: 3, H: 2}, {W: 2, H: 3}} {
		n := s.W * s.H
		kinds := 1
		for range n {
			kinds *= 3
		}
		for kind := range kinds {
			f := api.Field{Size: s}
			for k := kind; len(f.Cost) < n; k /= 3 {
				f.Cost = append(f.Cost, []uint16{0, 1, 4}[k%3])
			}
			for _, from := range cells(whole(s)) {
				want := slices.Repeat([]uint64{inf}, n)
				goAll(f, whole(s), from, func(way []api.Cell, costs uint64) {
					end := at(f, way[len(way)-1])
					want[end] = min(want[end], costs)
				})
				if far := within(t, f, whole(s), from); !slices.Equal(far, want) {
					t.Fatalf("Within(%v, %v) = %v, not %v", f, from, far, want)
				}
			}
		}
	}
}

func TestWithinOfAllWaysInABox(t *testing.T) {
	r := rand(2)
	for n := range 12 {
		f := strewn(api.Size{W: 4, H: 3}, 5*n, few(), &r)
		for _, b := range boxes(f.Size) {
			for _, from := range cells(b) {
				want := slices.Repeat([]uint64{inf}, len(f.Cost))
				goAll(f, b, from, func(way []api.Cell, costs uint64) {
					end := at(f, way[len(way)-1])
					want[end] = min(want[end], costs)
				})
				if far := within(t, f, b, from); !slices.Equal(far, want) {
					t.Fatalf("Within(%v, %v, %v) = %v, not %v", f, b, from, far, want)
				}
			}
		}
	}
}

func TestWithinOfBoxes(t *testing.T) {
	for _, f := range worlds() {
		for _, b := range boxes(f.Size) {
			for _, from := range cells(b) {
				if far, want := within(t, f, b, from), plainFar(f, b, from); !slices.Equal(far, want) {
					t.Fatalf("Within(%v, %v, %v) = %v, not %v", f, b, from, far, want)
				}
			}
		}
	}
}

func TestWithinOfGreaterMaps(t *testing.T) {
	r := rand(3)
	for _, s := range []api.Size{{W: 256, H: 1}, {W: 1, H: 256}, {W: 40, H: 25}, {W: 64, H: 64}} {
		for _, walls := range []int{0, 5, 30} {
			for _, costs := range [][]uint16{{1}, {65535}, few(), many()} {
				f := strewn(s, walls, costs, &r)
				for _, b := range []api.Box{whole(s), {X: s.W / 4, Y: s.H / 4, W: (s.W + 1) / 2, H: (s.H + 1) / 2}} {
					l := cells(b)
					from := l[r.below(len(l))]
					if far, want := within(t, f, b, from), plainFar(f, b, from); !slices.Equal(far, want) {
						t.Fatalf("Within(%v, %v, %v) with %d of 100 walls is not as it is to be", s, b, from, walls)
					}
				}
			}
		}
	}
}

// snake is a field with one way, through every second row, from its first cell on; all cells on it have one cost.
func snake(s api.Size, cost uint16) (api.Field, []api.Cell) {
	f := even(s, 0)
	var way []api.Cell
	for y := range s.H {
		row := cells(api.Box{Y: y, W: s.W, H: 1})
		switch {
		case y%4 == 1:
			row = row[s.W-1:]
		case y%4 == 2:
			slices.Reverse(row)
		case y%4 == 3:
			row = row[:1]
		}
		way = append(way, row...)
	}
	for _, c := range way {
		f.Cost[at(f, c)] = cost
	}
	return f, way
}

func TestWithinOfTheGreatestCosts(t *testing.T) {
	// One way that costs more than what 31 bits hold.
	f, way := snake(api.Size{W: 256, H: 256}, 65535)
	far := within(t, f, whole(f.Size), way[0])
	for k, c := range way {
		if got, want := far[at(f, c)], uint64(k)*65535; got != want {
			t.Fatalf("%v is %d far, not %d", c, got, want)
		}
		far[at(f, c)] = inf
	}
	if !slices.Equal(far, slices.Repeat([]uint64{inf}, 65536)) || uint64(len(way)-1)*65535 < 1<<31 {
		t.Error("a wall is reached")
	}
	l, costs, e := flood.Path(f, whole(f.Size), way[0], way[len(way)-1])
	if !slices.Equal(l, way) || costs != uint64(len(way)-1)*65535 || e != api.OK {
		t.Error(len(l), costs, e)
	}
}

func TestFromOfTheGreatestMap(t *testing.T) {
	s := api.Size{W: 256, H: 256}
	for _, each := range []uint16{1, 65535} {
		for _, from := range []api.Cell{{}, {X: 255}, {X: 255, Y: 255}, {X: 100, Y: 37}} {
			far, e := flood.From(even(s, each), from)
			if len(far) != 65536 || e != api.OK {
				t.Fatal(len(far), e)
			}
			for i, got := range far {
				steps := max(i%256-from.X, from.X-i%256) + max(i/256-from.Y, from.Y-i/256)
				if got != uint64(steps)*uint64(each) {
					t.Fatalf("number %d is %d far from %v", i, got, from)
				}
			}
		}
	}
}

func TestWithinCountsAllButTheFirstCell(t *testing.T) {
	f := field(3, 1, 100, 20, 3)
	for i, want := range [][]uint64{{0, 20, 23}, {100, 0, 3}, {120, 20, 0}} {
		if far := within(t, f, whole(f.Size), api.Cell{X: i}); !slices.Equal(far, want) {
			t.Errorf("from %d: %v", i, far)
		}
	}
}

func TestWithinOfAWall(t *testing.T) {
	for _, f := range worlds() {
		for _, b := range boxes(f.Size) {
			for _, from := range cells(b) {
				far := within(t, f, b, from)
				for _, c := range cells(whole(f.Size)) {
					reached := far[at(f, c)] != inf
					if reached && (cost(f, from) == 0 || cost(f, c) == 0 || !has(b, c)) {
						t.Fatalf("Within(%v, %v, %v): %v is reached", f, b, from, c)
					}
				}
				if cost(f, from) != 0 && far[at(f, from)] != 0 {
					t.Fatalf("Within(%v, %v, %v): it is %d far from itself", f, b, from, far[at(f, from)])
				}
			}
		}
	}
}

func TestWithinStaysInTheBox(t *testing.T) {
	// Round the wall, and past what costs much, there is a way that leaves the box.
	f := field(4, 3, 1, 9, 1, 1, 1, 0, 1, 1, 1, 1, 1, 1)
	for _, c := range []struct {
		b    api.Box
		want []uint64
	}{
		{whole(f.Size), []uint64{0, 9, 6, 7, 1, inf, 5, 6, 2, 3, 4, 5}},
		{api.Box{W: 4, H: 2}, []uint64{0, 9, 10, 11, 1, inf, 11, 12, inf, inf, inf, inf}},
		{api.Box{W: 2, H: 3}, []uint64{0, 9, inf, inf, 1, inf, inf, inf, 2, 3, inf, inf}},
		{api.Box{W: 1, H: 1}, []uint64{0, inf, inf, inf, inf, inf, inf, inf, inf, inf, inf, inf}},
		{api.Box{W: 3, H: 1}, []uint64{0, 9, 10, inf, inf, inf, inf, inf, inf, inf, inf, inf}},
	} {
		if far := within(t, f, c.b, api.Cell{}); !slices.Equal(far, c.want) {
			t.Errorf("Within(%v) = %v", c.b, far)
		}
	}
	// Rows do not go on at the other side.
	f = field(3, 2, 1, 1, 1, 0, 0, 1)
	if far := within(t, f, whole(f.Size), api.Cell{}); !slices.Equal(far, []uint64{0, 1, 2, inf, inf, 3}) {
		t.Error(far)
	}
	f = field(3, 2, 0, 0, 1, 1, 0, 0)
	if far := within(t, f, whole(f.Size), api.Cell{X: 2}); !slices.Equal(far, []uint64{inf, inf, 0, inf, inf, inf}) {
		t.Error(far)
	}
}

func TestWithinOfWhatIsOffTheBox(t *testing.T) {
	for _, f := range worlds() {
		for _, b := range boxes(f.Size) {
			in := cells(b)[0]
			for _, from := range off(b) {
				// Also such as are on the map.
				refused(t, f, b, from, in, api.ErrRange)
			}
		}
	}
}

func TestWithinOfABoxThatDoesNotLieOnTheMap(t *testing.T) {
	for _, s := range []api.Size{{W: 1, H: 1}, {W: 4, H: 3}, {W: 256, H: 2}, {W: 2, H: 256}} {
		for _, f := range []api.Field{even(s, 1), even(s, 0)} {
			for _, b := range unfit(s) {
				for _, from := range []api.Cell{{}, {X: b.X, Y: b.Y}, {X: -1, Y: -1}, {X: s.W, Y: s.H}, {X: math.MaxInt, Y: math.MinInt}} {
					refused(t, f, b, from, from, api.ErrRange)
				}
			}
		}
	}
}

func TestWithinOfAFieldThatIsNotRight(t *testing.T) {
	for fault, l := range faulty() {
		for _, f := range l {
			// The field is held against first, whatever box and cells are.
			for _, b := range append(unfit(f.Size), whole(f.Size), api.Box{W: 1, H: 1}) {
				for _, c := range []api.Cell{{}, {X: -1, Y: 7}, {X: math.MinInt, Y: math.MaxInt}} {
					refused(t, f, b, c, c, fault)
				}
			}
			for _, from := range []api.Cell{{}, {X: -1}, {X: math.MaxInt, Y: math.MaxInt}} {
				if far, e := flood.From(f, from); len(far) != 0 || e != fault {
					t.Errorf("From of %v with %d costs: %v, %v", f.Size, len(f.Cost), far, e)
				}
			}
		}
	}
}

func TestFromIsWithinAllOfTheMap(t *testing.T) {
	for _, f := range worlds() {
		for _, from := range cells(whole(f.Size)) {
			far, e := flood.From(f, from)
			if want := within(t, f, whole(f.Size), from); !slices.Equal(far, want) || e != api.OK {
				t.Fatalf("From(%v, %v) = %v, %v, not %v", f, from, far, e, want)
			}
		}
		for _, from := range off(whole(f.Size)) {
			if far, e := flood.From(f, from); len(far) != 0 || e != api.ErrRange {
				t.Errorf("From(%v, %v) = %v, %v", f.Size, from, far, e)
			}
		}
	}
}

// P8.2

func TestPathOfTheExample(t *testing.T) {
	f := field(3, 2, 1, 2, 1, 1, 9, 1)
	l, costs, e := flood.Path(f, whole(f.Size), api.Cell{}, api.Cell{X: 2, Y: 1})
	if !slices.Equal(l, []api.Cell{{}, {X: 1}, {X: 2}, {X: 2, Y: 1}}) || costs != 4 || e != api.OK {
		t.Error(l, costs, e)
	}
}

func TestPathIsToldFromItsEnd(t *testing.T) {
	for _, f := range worlds() {
		for _, b := range boxes(f.Size) {
			for _, from := range cells(b) {
				far := plainFar(f, b, from)
				for _, to := range cells(b) {
					if far[at(f, to)] == inf {
						pathless(t, f, b, from, to, api.ErrPath)
						continue
					}
					l, costs, e := flood.Path(f, b, from, to)
					if want := plainPath(f, b, from, to, far); !slices.Equal(l, want) || costs != far[at(f, to)] || e != api.OK {
						t.Fatalf("Path(%v, %v, %v, %v) = %v, %d, %v, not %v, %d", f, b, from, to, l, costs, e, want, far[at(f, to)])
					}
				}
			}
		}
	}
}

func TestPathOfSeveralThatCostTheSame(t *testing.T) {
	f := even(api.Size{W: 3, H: 3}, 2)
	middle := api.Cell{X: 1, Y: 1}
	for _, c := range []struct {
		from, to api.Cell
		want     []api.Cell
	}{
		// From the end: North first, then East, South, and West last.
		{api.Cell{}, api.Cell{X: 2, Y: 2}, []api.Cell{{}, {X: 1}, {X: 2}, {X: 2, Y: 1}, {X: 2, Y: 2}}},
		{api.Cell{X: 2, Y: 2}, api.Cell{}, []api.Cell{{X: 2, Y: 2}, {X: 2, Y: 1}, {X: 2}, {X: 1}, {}}},
		{api.Cell{X: 2}, api.Cell{Y: 2}, []api.Cell{{X: 2}, {X: 1}, {}, {Y: 1}, {Y: 2}}},
		{api.Cell{Y: 2}, api.Cell{X: 2}, []api.Cell{{Y: 2}, {X: 1, Y: 2}, {X: 2, Y: 2}, {X: 2, Y: 1}, {X: 2}}},
		{api.Cell{Y: 2}, middle, []api.Cell{{Y: 2}, {X: 1, Y: 2}, middle}},
		{api.Cell{}, middle, []api.Cell{{}, {X: 1}, middle}},
		{api.Cell{X: 2}, middle, []api.Cell{{X: 2}, {X: 1}, middle}},
		{api.Cell{X: 2, Y: 2}, middle, []api.Cell{{X: 2, Y: 2}, {X: 2, Y: 1}, middle}},
	} {
		l, costs, e := flood.Path(f, whole(f.Size), c.from, c.to)
		if !slices.Equal(l, c.want) || costs != 2*uint64(len(c.want)-1) || e != api.OK {
			t.Errorf("from %v to %v: %v, %d, %v", c.from, c.to, l, costs, e)
		}
	}
}

func TestPathOfOneCell(t *testing.T) {
	for _, f := range worlds() {
		for _, b := range boxes(f.Size) {
			for _, c := range cells(b) {
				if cost(f, c) == 0 {
					pathless(t, f, b, c, c, api.ErrPath)
					continue
				}
				if l, costs, e := flood.Path(f, b, c, c); !slices.Equal(l, []api.Cell{c}) || costs != 0 || e != api.OK {
					t.Errorf("Path(%v, %v, %v) to itself = %v, %d, %v", f, b, c, l, costs, e)
				}
			}
		}
	}
}

func TestPathBesideWhatIsNotReached(t *testing.T) {
	// From the first cell, which is 0 far and costs 1, no path goes back to a cell that is sat.Inf far, though 0 less 1 goes round to that.
	f := field(3, 3, 0, 0, 0, 1, 1, 0, 0, 0, 1)
	for _, c := range []struct {
		from, to api.Cell
		want     []api.Cell
	}{
		{api.Cell{Y: 1}, api.Cell{Y: 1}, []api.Cell{{Y: 1}}},
		{api.Cell{Y: 1}, api.Cell{X: 1, Y: 1}, []api.Cell{{Y: 1}, {X: 1, Y: 1}}},
		{api.Cell{X: 2, Y: 2}, api.Cell{X: 2, Y: 2}, []api.Cell{{X: 2, Y: 2}}},
	} {
		l, costs, e := flood.Path(f, whole(f.Size), c.from, c.to)
		if !slices.Equal(l, c.want) || costs != uint64(len(c.want)-1) || e != api.OK {
			t.Errorf("from %v to %v: %v, %d, %v", c.from, c.to, l, costs, e)
		}
	}
	pathless(t, f, whole(f.Size), api.Cell{Y: 1}, api.Cell{X: 2, Y: 2}, api.ErrPath)
	// Cells off the box are open, and are not reached.
	open := even(api.Size{W: 5, H: 5}, 1)
	b := api.Box{X: 1, Y: 1, W: 2, H: 2}
	l, costs, e := flood.Path(open, b, api.Cell{X: 1, Y: 1}, api.Cell{X: 1, Y: 1})
	if !slices.Equal(l, []api.Cell{{X: 1, Y: 1}}) || costs != 0 || e != api.OK {
		t.Error(l, costs, e)
	}
}

func TestPathToWhatIsOffTheBox(t *testing.T) {
	for _, f := range worlds() {
		for _, b := range boxes(f.Size) {
			// From a wall, too: that comes ahead of there being no path.
			for _, from := range cells(b) {
				for _, to := range off(b) {
					pathless(t, f, b, from, to, api.ErrRange)
				}
			}
		}
	}
}

func TestPathGoesLongWays(t *testing.T) {
	s := api.Size{W: 256, H: 256}
	l, costs, e := flood.Path(even(s, 65535), whole(s), api.Cell{}, api.Cell{X: 255, Y: 255})
	var want []api.Cell
	for x := range 256 {
		want = append(want, api.Cell{X: x})
	}
	for y := 1; y < 256; y++ {
		want = append(want, api.Cell{X: 255, Y: y})
	}
	if !slices.Equal(l, want) || costs != 510*65535 || e != api.OK {
		t.Error(len(l), costs, e)
	}
}

// P8.3

func TestWhatFollows(t *testing.T) {
	for _, f := range worlds() {
		all := cells(whole(f.Size))
		var far [][]uint64
		for _, from := range all {
			far = append(far, within(t, f, whole(f.Size), from))
		}
		for i, a := range all {
			for k, c := range all {
				// There and back.
				if there, back := sat.Add(far[i][k], cost(f, a)), sat.Add(far[k][i], cost(f, c)); there != back {
					t.Fatalf("of %v: %v and %v are %d and %d far", f, a, c, there, back)
				}
				nearest := inf
				for _, n := range around(c) {
					if has(whole(f.Size), n) {
						nearest = min(nearest, far[i][at(f, n)])
					}
				}
				if cost(f, c) != 0 && i != k && far[i][k] != sat.Add(nearest, cost(f, c)) {
					t.Fatalf("of %v: from %v, %v is %d far, and what is beside it %d", f, a, c, far[i][k], nearest)
				}
				for third := range all {
					if sat.Add(far[i][third], far[third][k]) < far[i][k] {
						t.Fatalf("of %v: from %v, %v is further than by way of %v", f, a, c, all[third])
					}
				}
			}
		}
	}
}

func TestFromAGreaterBoxNothingIsFurther(t *testing.T) {
	r := rand(4)
	for range 6 {
		f := strewn(api.Size{W: 4, H: 4}, 20, few(), &r)
		l := boxes(f.Size)
		for _, small := range l {
			for _, great := range l {
				if !has(great, api.Cell{X: small.X, Y: small.Y}) || !has(great, api.Cell{X: small.X + small.W - 1, Y: small.Y + small.H - 1}) {
					continue
				}
				from := cells(small)[0]
				less, more := within(t, f, great, from), within(t, f, small, from)
				for i := range less {
					if less[i] > more[i] {
						t.Fatalf("of %v: number %d is %d far in %v, and %d in %v", f, i, less[i], great, more[i], small)
					}
				}
			}
		}
	}
}

func TestWhatLiesOnALeastWay(t *testing.T) {
	r := rand(5)
	for n := range 60 {
		f := strewn(api.Size{W: 12, H: 9}, n%40, [][]uint16{few(), many()}[n%2], &r)
		b := api.Box{X: n % 3, Y: n % 2, W: 9, H: 8}
		l := cells(b)
		from, to := l[r.below(len(l))], l[r.below(len(l))]
		far := within(t, f, b, from)
		path, costs, e := flood.Path(f, b, from, to)
		if e != api.OK {
			pathless(t, f, b, from, to, api.ErrPath)
			continue
		}
		if path[0] != from || path[len(path)-1] != to || costs != far[at(f, to)] {
			t.Fatalf("Path(%v, %v, %v, %v) = %v, %d", f, b, from, to, path, costs)
		}
		along := uint64(0)
		for i, c := range path {
			if i > 0 {
				along += cost(f, c)
				if !slices.Contains(around(path[i-1]), c) {
					t.Fatalf("%v does not lie beside %v", c, path[i-1])
				}
			}
			if !has(b, c) || cost(f, c) == 0 || far[at(f, c)] != along {
				t.Fatalf("of %v: %v is %d far, and lies %d along", f, c, far[at(f, c)], along)
			}
		}
	}
}

// Rules that hold everywhere

func TestNothingIsWrittenIntoOrShared(t *testing.T) {
	long := []uint16{1, 2, 1, 1, 9, 1, 77, 78}
	f := field(3, 2, long[:6]...)
	f.Cost = long[:6]
	b, from, to := whole(f.Size), api.Cell{}, api.Cell{X: 2, Y: 1}
	tell := func() ([]uint64, []uint64, []api.Cell) {
		all, _ := flood.From(f, from)
		l, _, _ := flood.Path(f, b, from, to)
		return within(t, f, b, from), all, l
	}
	far, all, path := tell()
	for _, l := range [][]uint64{far, all} {
		l = l[:cap(l)]
		for i := range l {
			l[i] = 55
		}
	}
	path = path[:cap(path)]
	for i := range path {
		path[i] = api.Cell{X: 55, Y: 55}
	}
	if !slices.Equal(long, []uint16{1, 2, 1, 1, 9, 1, 77, 78}) {
		t.Error(long)
	}
	// What was told is as it was, and is told anew after other costs, and after faults.
	want := []uint64{0, 2, 3, 1, 10, 4}
	flood.From(even(f.Size, 3), to)
	flood.From(f, api.Cell{X: -1})
	flood.Path(f, b, from, api.Cell{X: 3})
	far, all, path = tell()
	if !slices.Equal(far, want) || !slices.Equal(all, want) || !slices.Equal(path, []api.Cell{{}, {X: 1}, {X: 2}, to}) {
		t.Error(far, all, path)
	}
	// A field that was handed in is not kept.
	f.Cost[1] = 0
	if again := within(t, f, b, from); !slices.Equal(far, want) || !slices.Equal(again, []uint64{0, inf, 12, 1, 10, 11}) {
		t.Error(far, again)
	}
}
