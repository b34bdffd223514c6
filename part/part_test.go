package part_test

import (
	"math"
	"slices"
	"testing"

	"gloaming/api"
	"gloaming/part"
)

// sizes are sizes of maps: all small ones, and such at the edges of what may be.
func sizes() []api.Size {
	var l []api.Size
	for w := 1; w <= 7; w++ {
		for h := 1; h <= 7; h++ {
			l = append(l, api.Size{W: w, H: h})
		}
	}
	for _, n := range []int{15, 16, 17, 18, 31, 32, 33, 34} {
		l = append(l, api.Size{W: n, H: n - 3}, api.Size{W: 1, H: n}, api.Size{W: n, H: 1}, api.Size{W: 50 - n, H: n})
	}
	return append(l, api.Size{W: 256, H: 1}, api.Size{W: 1, H: 256}, api.Size{W: 255, H: 4}, api.Size{W: 5, H: 256})
}

// wrongSizes are sizes that may not be.
func wrongSizes() []api.Size {
	return []api.Size{{}, {W: 0, H: 1}, {W: 1, H: 0}, {W: 257, H: 1}, {W: 1, H: 257}, {W: 257, H: 257}, {W: -1, H: 1}, {W: 1, H: -1}, {W: -3, H: -3}, {W: 1 << 32, H: 1 << 32}, {W: math.MaxInt, H: math.MaxInt}, {W: math.MinInt, H: math.MinInt}}
}

// wrongSides are sides that no cluster may have.
func wrongSides() []int {
	return []int{0, 1, -1, -2, -16, 17, 18, 32, 256, 1 << 32, 1<<32 + 2, math.MaxInt, math.MinInt}
}

// wrongParts are parts that are not right, by their size, by their side, or by both.
func wrongParts() []part.Parts {
	var l []part.Parts
	for _, s := range wrongSizes() {
		for _, side := range append(wrongSides(), 2, 3, 16) {
			l = append(l, part.Parts{Size: s, Side: side})
		}
	}
	for _, s := range []api.Size{{W: 1, H: 1}, {W: 5, H: 3}, {W: 256, H: 256}} {
		for _, side := range wrongSides() {
			l = append(l, part.Parts{Size: s, Side: side})
		}
	}
	return l
}

// numbers are at, and about, all sorts of edges.
func numbers() []int {
	return []int{math.MinInt, math.MinInt + 1, -1 << 32, -257, -2, -1, 0, 1, 2, 5, 6, 255, 256, 16383, 16384, 1 << 32, math.MaxInt - 1, math.MaxInt}
}

// off are cells just off a map, and far from it; some would be on it, if numbers went round.
func off(s api.Size) []api.Cell {
	l := []api.Cell{{X: -1}, {Y: -1}, {X: -1, Y: -1}, {X: s.W}, {Y: s.H}, {X: s.W, Y: s.H}, {X: s.W - 1, Y: s.H}, {X: s.W, Y: s.H - 1}, {X: -1, Y: s.H - 1}, {X: s.W - 1, Y: -1}}
	for _, n := range []int{math.MaxInt, math.MinInt, 1 << 32, -1 << 32, 1 << 16, -17} {
		l = append(l, api.Cell{X: n}, api.Cell{Y: n}, api.Cell{X: n, Y: n})
	}
	return l
}

// noIDs are numbers of no cluster, of so many.
func noIDs(count int) []int {
	return []int{-1, -2, -count, count, count + 1, 2 * count, 1 << 32, -1 << 32, math.MaxInt, math.MinInt}
}

// all are the cells of a map, row by row.
func all(s api.Size) []api.Cell {
	return cellsOf(api.Box{W: s.W, H: s.H})
}

// cellsOf are the cells of a box, row by row.
func cellsOf(b api.Box) []api.Cell {
	var l []api.Cell
	for y := b.Y; y < b.Y+b.H; y++ {
		for x := b.X; x < b.X+b.W; x++ {
			l = append(l, api.Cell{X: x, Y: y})
		}
	}
	return l
}

// pair is two cells beside one another, the left or the upper one first.
type pair = [2]api.Cell

// plain is what is told of parts, read from the chapter's words: of each cluster the box, of each cell the cluster, of each cluster those beside it, and of two clusters side by side (the lesser one first) their border.
type plain struct {
	boxes  []api.Box
	of     map[api.Cell]int
	beside [][]int
	border map[[2]int][]pair
}

// read is the plain reading of parts that are right.
func read(p part.Parts) plain {
	r := plain{of: map[api.Cell]int{}, border: map[[2]int][]pair{}}
	for y := 0; y < p.Size.H; y += p.Side {
		for x := 0; x < p.Size.W; x += p.Side {
			b := api.Box{X: x, Y: y, W: p.Side, H: p.Side}
			for b.X+b.W > p.Size.W {
				b.W--
			}
			for b.Y+b.H > p.Size.H {
				b.H--
			}
			for _, c := range cellsOf(b) {
				r.of[c] = len(r.boxes)
			}
			r.boxes = append(r.boxes, b)
		}
	}
	for _, c := range all(p.Size) {
		for _, d := range []api.Cell{{X: c.X + 1, Y: c.Y}, {X: c.X, Y: c.Y + 1}} {
			a, b := r.of[c], r.of[d]
			if _, on := r.of[d]; on && a != b {
				r.border[[2]int{a, b}] = append(r.border[[2]int{a, b}], pair{c, d})
			}
		}
	}
	for _, b := range r.boxes {
		var l []int
		for _, c := range []api.Cell{{X: b.X, Y: b.Y - 1}, {X: b.X + b.W, Y: b.Y}, {X: b.X, Y: b.Y + b.H}, {X: b.X - 1, Y: b.Y}} {
			if id, on := r.of[c]; on {
				l = append(l, id)
			}
		}
		r.beside = append(r.beside, l)
	}
	return r
}

// made are parts that New makes of a size and a side that are right.
func made(t *testing.T, s api.Size, side int) part.Parts {
	t.Helper()
	p, e := part.New(s, side)
	if p != (part.Parts{Size: s, Side: side}) || e != api.OK {
		t.Fatalf("New(%v, %d) = %v, %v", s, side, p, e)
	}
	return p
}

// eachParts calls a function with parts that are right, of all sizes and sides, and with their plain reading.
func eachParts(t *testing.T, do func(p part.Parts, r plain)) {
	t.Helper()
	for _, s := range sizes() {
		for side := 2; side <= 16; side++ {
			p := made(t, s, side)
			do(p, read(p))
		}
	}
}

// greatest are parts of the greatest map.
func greatest(t *testing.T) []part.Parts {
	t.Helper()
	var l []part.Parts
	for _, side := range []int{2, 3, 7, 15, 16} {
		l = append(l, made(t, api.Size{W: 256, H: 256}, side))
	}
	return l
}

// ofIs fails, if Of tells something else.
func ofIs(t *testing.T, p part.Parts, c api.Cell, want int, fault api.Errno) {
	t.Helper()
	if id, e := p.Of(c); id != want || e != fault {
		t.Fatalf("%v: Of(%v) = %d, %v, not %d, %v", p, c, id, e, want, fault)
	}
}

// boxIs fails, if Box tells something else.
func boxIs(t *testing.T, p part.Parts, id int, want api.Box, fault api.Errno) {
	t.Helper()
	if b, e := p.Box(id); b != want || e != fault {
		t.Fatalf("%v: Box(%d) = %v, %v, not %v, %v", p, id, b, e, want, fault)
	}
}

// besideIs fails, if Beside tells something else.
func besideIs(t *testing.T, p part.Parts, id int, want []int, fault api.Errno) {
	t.Helper()
	if l, e := p.Beside(id); !slices.Equal(l, want) || e != fault {
		t.Fatalf("%v: Beside(%d) = %v, %v, not %v, %v", p, id, l, e, want, fault)
	}
}

// borderIs fails, if Border tells something else, of one order of two clusters or of the other one.
func borderIs(t *testing.T, p part.Parts, a, b int, want []pair, fault api.Errno) {
	t.Helper()
	for _, o := range [2][2]int{{a, b}, {b, a}} {
		if l, e := p.Border(o[0], o[1]); !slices.Equal(l, want) || e != fault {
			t.Fatalf("%v: Border(%d, %d) = %v, %v, not %v, %v", p, o[0], o[1], l, e, want, fault)
		}
	}
}

// P11.1

func TestNew(t *testing.T) {
	for _, s := range sizes() {
		for side := 2; side <= 16; side++ {
			made(t, s, side)
		}
	}
	greatest(t)
}

func TestNewOfWrongThings(t *testing.T) {
	for _, p := range wrongParts() {
		if q, e := part.New(p.Size, p.Side); q != (part.Parts{}) || e != api.ErrRange {
			t.Errorf("New(%v, %d) = %v, %v", p.Size, p.Side, q, e)
		}
	}
}

func TestNewAtTheEdges(t *testing.T) {
	for _, w := range []int{0, 1, 2, 255, 256, 257} {
		for _, h := range []int{0, 1, 2, 255, 256, 257} {
			for side := -1; side <= 18; side++ {
				s := api.Size{W: w, H: h}
				want, fault := part.Parts{Size: s, Side: side}, api.OK
				if w < 1 || w > 256 || h < 1 || h > 256 || side < 2 || side > 16 {
					want, fault = part.Parts{}, api.ErrRange
				}
				if p, e := part.New(s, side); p != want || e != fault {
					t.Errorf("New(%v, %d) = %v, %v", s, side, p, e)
				}
			}
		}
	}
}

func TestCount(t *testing.T) {
	eachParts(t, func(p part.Parts, r plain) {
		if n := p.Count(); n != len(r.boxes) {
			t.Fatalf("%v: %d clusters, not %d", p, n, len(r.boxes))
		}
	})
	for i, want := range []int{16384, 7396, 1369, 324, 256} {
		if p := greatest(t)[i]; p.Count() != want {
			t.Errorf("%v: %d clusters, not %d", p, p.Count(), want)
		}
	}
}

func TestOf(t *testing.T) {
	eachParts(t, func(p part.Parts, r plain) {
		for _, c := range all(p.Size) {
			ofIs(t, p, c, r.of[c], api.OK)
		}
		for _, c := range off(p.Size) {
			ofIs(t, p, c, 0, api.ErrRange)
		}
	})
	for _, p := range greatest(t) {
		r := read(p)
		for _, c := range all(p.Size) {
			ofIs(t, p, c, r.of[c], api.OK)
		}
		for _, c := range off(p.Size) {
			ofIs(t, p, c, 0, api.ErrRange)
		}
	}
}

func TestBox(t *testing.T) {
	eachParts(t, func(p part.Parts, r plain) {
		for id, b := range r.boxes {
			boxIs(t, p, id, b, api.OK)
		}
		for _, id := range noIDs(len(r.boxes)) {
			boxIs(t, p, id, api.Box{}, api.ErrRange)
		}
	})
	for _, p := range greatest(t) {
		for id, b := range read(p).boxes {
			boxIs(t, p, id, b, api.OK)
		}
	}
}

func TestPartsThatAreNotRight(t *testing.T) {
	for _, p := range wrongParts() {
		if n := p.Count(); n != 0 {
			t.Errorf("%v: %d clusters", p, n)
		}
		// The parts are held against first, whatever else is wrong.
		for _, a := range numbers() {
			boxIs(t, p, a, api.Box{}, api.ErrArg)
			besideIs(t, p, a, nil, api.ErrArg)
			for _, b := range numbers() {
				ofIs(t, p, api.Cell{X: a, Y: b}, 0, api.ErrArg)
				borderIs(t, p, a, b, nil, api.ErrArg)
			}
		}
	}
}

func TestPartsThatNewDidNotMake(t *testing.T) {
	p := part.Parts{Size: api.Size{W: 16, H: 17}, Side: 16}
	if n := p.Count(); n != 2 {
		t.Error(n)
	}
	ofIs(t, p, api.Cell{X: 15, Y: 16}, 1, api.OK)
	boxIs(t, p, 1, api.Box{Y: 16, W: 16, H: 1}, api.OK)
	besideIs(t, p, 1, []int{0}, api.OK)
	if l, e := p.Border(1, 0); len(l) != 16 || e != api.OK {
		t.Error(l, e)
	}
}

// P11.2

func TestBeside(t *testing.T) {
	eachParts(t, func(p part.Parts, r plain) {
		for id, l := range r.beside {
			besideIs(t, p, id, l, api.OK)
		}
		for _, id := range noIDs(len(r.boxes)) {
			besideIs(t, p, id, nil, api.ErrRange)
		}
	})
	for _, p := range greatest(t) {
		for id, l := range read(p).beside {
			besideIs(t, p, id, l, api.OK)
		}
	}
}

func TestBorder(t *testing.T) {
	eachParts(t, func(p part.Parts, r plain) {
		for a := range r.boxes {
			for _, b := range asked(a, len(r.boxes), p) {
				if l, side := r.border[[2]int{a, b}]; side {
					borderIs(t, p, a, b, l, api.OK)
				} else {
					borderIs(t, p, a, b, nil, api.ErrArg)
				}
			}
		}
	})
}

// asked are clusters from one on: all, if there are few; else those next to it by their numbers, those about the one below it, and the last ones.
func asked(a, count int, p part.Parts) []int {
	row := (p.Size.W + p.Side - 1) / p.Side
	var l []int
	for b := a; b < count; b++ {
		if count <= 40 || b < a+4 || a+row-3 < b && b < a+row+3 || b > count-3 {
			l = append(l, b)
		}
	}
	return l
}

func TestBorderOfTheGreatestMaps(t *testing.T) {
	for _, p := range greatest(t) {
		r := read(p)
		for two, l := range r.border {
			borderIs(t, p, two[0], two[1], l, api.OK)
		}
		for a := range r.boxes {
			for _, b := range []int{a, a + 2, a / 2, p.Count() - 1 - a} {
				_, side := r.border[[2]int{min(a, b), max(a, b)}]
				if b < len(r.boxes) && !side {
					borderIs(t, p, a, b, nil, api.ErrArg)
				}
			}
		}
	}
}

func TestBorderFromARowToTheNext(t *testing.T) {
	// The last cluster of a row, and the first one of the next, are numbered one behind the other, but do not lie side by side.
	p := made(t, api.Size{W: 5, H: 3}, 2)
	borderIs(t, p, 2, 3, nil, api.ErrArg)
	p = made(t, api.Size{W: 4, H: 6}, 2)
	borderIs(t, p, 1, 2, nil, api.ErrArg)
	borderIs(t, p, 3, 4, nil, api.ErrArg)
	// In one column they do.
	p = made(t, api.Size{W: 2, H: 6}, 2)
	borderIs(t, p, 1, 2, []pair{{{Y: 3}, {Y: 4}}, {{X: 1, Y: 3}, {X: 1, Y: 4}}}, api.OK)
}

func TestBorderOfClustersCorneringOrApart(t *testing.T) {
	p := made(t, api.Size{W: 9, H: 9}, 3)
	for _, b := range []int{0, 2, 4, 6, 8} {
		for _, a := range []int{0, 2, 4, 6, 8} {
			borderIs(t, p, a, b, nil, api.ErrArg)
		}
	}
	borderIs(t, p, 0, 7, nil, api.ErrArg)
	borderIs(t, p, 1, 7, nil, api.ErrArg)
	borderIs(t, p, 3, 5, nil, api.ErrArg)
	borderIs(t, p, 3, 3, nil, api.ErrArg)
}

func TestBorderOfNoCluster(t *testing.T) {
	for _, p := range []part.Parts{made(t, api.Size{W: 1, H: 1}, 2), made(t, api.Size{W: 5, H: 3}, 2), made(t, api.Size{W: 256, H: 256}, 2)} {
		for _, no := range noIDs(p.Count()) {
			for _, id := range []int{0, p.Count() / 2, p.Count() - 1} {
				borderIs(t, p, no, id, nil, api.ErrRange)
			}
			// Nor of two that are none, be they one and the same.
			for _, other := range noIDs(p.Count()) {
				borderIs(t, p, no, other, nil, api.ErrRange)
			}
		}
	}
}

func TestOneCluster(t *testing.T) {
	for _, s := range []api.Size{{W: 1, H: 1}, {W: 2, H: 1}, {W: 16, H: 16}, {W: 1, H: 16}} {
		p := made(t, s, 16)
		if n := p.Count(); n != 1 {
			t.Error(s, n)
		}
		boxIs(t, p, 0, api.Box{W: s.W, H: s.H}, api.OK)
		besideIs(t, p, 0, nil, api.OK)
		borderIs(t, p, 0, 0, nil, api.ErrArg)
		borderIs(t, p, 0, 1, nil, api.ErrRange)
		borderIs(t, p, 0, -1, nil, api.ErrRange)
	}
}

// P11.3

func TestEachCellIsInOneCluster(t *testing.T) {
	eachParts(t, func(p part.Parts, _ plain) {
		in := map[api.Cell][]int{}
		for id := range p.Count() {
			b, _ := p.Box(id)
			for _, c := range cellsOf(b) {
				in[c] = append(in[c], id)
			}
		}
		if len(in) != p.Size.W*p.Size.H {
			t.Fatalf("%v: the boxes have %d cells", p, len(in))
		}
		for _, c := range all(p.Size) {
			if id, e := p.Of(c); !slices.Equal(in[c], []int{id}) || e != api.OK {
				t.Fatalf("%v: %v is in %d, %v, and in the boxes of %v", p, c, id, e, in[c])
			}
		}
	})
}

func TestAllPairsAreInOneBorder(t *testing.T) {
	eachParts(t, func(p part.Parts, _ plain) {
		times := map[pair]int{}
		for a := range p.Count() {
			near, _ := p.Beside(a)
			for _, b := range near {
				ahead, e := p.Border(a, b)
				back, f := p.Border(b, a)
				if len(ahead) == 0 || e != api.OK || f != api.OK || !slices.Equal(ahead, back) {
					t.Fatalf("%v: of %d and %d: %v, %v, and back %v, %v", p, a, b, ahead, e, back, f)
				}
				if a > b {
					continue
				}
				for _, two := range ahead {
					times[two]++
					from, _ := p.Of(two[0])
					to, _ := p.Of(two[1])
					if from != a || to != b {
						t.Fatalf("%v: %v of %d and %d is one of %d and %d", p, two, a, b, from, to)
					}
				}
			}
		}
		for _, c := range all(p.Size) {
			for _, d := range []api.Cell{{X: c.X + 1, Y: c.Y}, {X: c.X, Y: c.Y + 1}} {
				from, _ := p.Of(c)
				to, e := p.Of(d)
				want := 0
				if e == api.OK && from != to {
					want = 1
				}
				if got := times[pair{c, d}]; got != want {
					t.Fatalf("%v: %v and %v are %d times in borders, not %d", p, c, d, got, want)
				}
				delete(times, pair{c, d})
			}
		}
		if len(times) > 0 {
			t.Fatalf("%v: beside all pairs, borders have %v", p, times)
		}
	})
}

func TestNeighboursAreSo(t *testing.T) {
	eachParts(t, func(p part.Parts, _ plain) {
		for a := range p.Count() {
			near, _ := p.Beside(a)
			for _, b := range near {
				if l, _ := p.Beside(b); !slices.Contains(l, a) {
					t.Fatalf("%v: beside %d is %d, and beside that %v", p, a, b, l)
				}
			}
			for _, b := range asked(a, p.Count(), p) {
				if _, e := p.Border(a, b); (e == api.OK) != slices.Contains(near, b) {
					t.Fatalf("%v: beside %d are %v; the border with %d: %v", p, a, near, b, e)
				}
			}
		}
	})
}

// The chapter's examples

func TestExample(t *testing.T) {
	p := made(t, api.Size{W: 5, H: 3}, 2)
	if n := p.Count(); n != 6 {
		t.Error(n)
	}
	ofIs(t, p, api.Cell{X: 4, Y: 2}, 5, api.OK)
	boxIs(t, p, 5, api.Box{X: 4, Y: 2, W: 1, H: 1}, api.OK)
	besideIs(t, p, 1, []int{2, 4, 0}, api.OK)
	borderIs(t, p, 0, 1, []pair{{{X: 1}, {X: 2}}, {{X: 1, Y: 1}, {X: 2, Y: 1}}}, api.OK)
}

func TestAllFourDirections(t *testing.T) {
	p := made(t, api.Size{W: 7, H: 8}, 3)
	besideIs(t, p, 4, []int{1, 5, 7, 3}, api.OK)
	borderIs(t, p, 4, 1, []pair{{{X: 3, Y: 2}, {X: 3, Y: 3}}, {{X: 4, Y: 2}, {X: 4, Y: 3}}, {{X: 5, Y: 2}, {X: 5, Y: 3}}}, api.OK)
	borderIs(t, p, 4, 5, []pair{{{X: 5, Y: 3}, {X: 6, Y: 3}}, {{X: 5, Y: 4}, {X: 6, Y: 4}}, {{X: 5, Y: 5}, {X: 6, Y: 5}}}, api.OK)
	borderIs(t, p, 7, 8, []pair{{{X: 5, Y: 6}, {X: 6, Y: 6}}, {{X: 5, Y: 7}, {X: 6, Y: 7}}}, api.OK)
	borderIs(t, p, 5, 8, []pair{{{X: 6, Y: 5}, {X: 6, Y: 6}}}, api.OK)
}

// Rules that hold everywhere

func TestNothingIsShared(t *testing.T) {
	p := made(t, api.Size{W: 7, H: 8}, 3)
	near, _ := p.Beside(4)
	other, _ := p.Beside(4)
	border, _ := p.Border(4, 5)
	back, _ := p.Border(5, 4)
	near, border = near[:cap(near)], border[:cap(border)]
	for i := range near {
		near[i] = 77
	}
	for i := range border {
		border[i] = pair{{X: 77}, {Y: 77}}
	}
	if !slices.Equal(other, []int{1, 5, 7, 3}) || slices.Contains(back, pair{{X: 77}, {Y: 77}}) {
		t.Error(other, back)
	}
	besideIs(t, p, 4, []int{1, 5, 7, 3}, api.OK)
	borderIs(t, p, 4, 5, back, api.OK)
}

func TestAnything(t *testing.T) {
	for _, s := range append(wrongSizes(), api.Size{W: 1, H: 1}, api.Size{W: 5, H: 3}, api.Size{W: 256, H: 256}) {
		for _, side := range append(wrongSides(), 2, 3, 16) {
			part.New(s, side)
			p := part.Parts{Size: s, Side: side}
			p.Count()
			for _, a := range numbers() {
				p.Box(a)
				p.Beside(a)
				for _, b := range numbers() {
					p.Of(api.Cell{X: a, Y: b})
					p.Border(a, b)
				}
			}
		}
	}
}
