package grid_test

import (
	"math"
	"slices"
	"strings"
	"testing"

	"gloaming/api"
	"gloaming/grid"
)

// maps are sizes that may be, small ones and greatest ones.
func maps() []api.Size {
	return []api.Size{{W: 1, H: 1}, {W: 1, H: 5}, {W: 4, H: 1}, {W: 4, H: 3}, {W: 3, H: 4}, {W: 256, H: 1}, {W: 1, H: 256}, {W: 255, H: 7}, {W: 256, H: 256}}
}

// wrong are sizes that may not be.
func wrong() []api.Size {
	return []api.Size{{}, {W: 0, H: 1}, {W: 1, H: 0}, {W: 257, H: 1}, {W: 1, H: 257}, {W: -1, H: 1}, {W: 1, H: -1}, {W: -3, H: -3}, {W: 1 << 32, H: 1 << 32}, {W: math.MaxInt, H: math.MaxInt}, {W: math.MinInt, H: math.MinInt}}
}

// off are cells just off a map, and far from it.
func off(s api.Size) []api.Cell {
	return []api.Cell{
		{X: -1, Y: 0}, {X: 0, Y: -1}, {X: -1, Y: -1}, {X: -1, Y: 1},
		{X: s.W, Y: 0}, {X: s.W - 1, Y: -1}, {X: s.W, Y: s.H - 1},
		{X: 0, Y: s.H}, {X: -1, Y: s.H - 1}, {X: s.W - 1, Y: s.H}, {X: s.W, Y: s.H},
		{X: math.MaxInt, Y: 0}, {X: 0, Y: math.MaxInt}, {X: math.MinInt, Y: 0}, {X: 0, Y: math.MinInt},
	}
}

// all are the cells of a map, row by row.
func all(s api.Size) []api.Cell {
	var l []api.Cell
	for y := 0; y < s.H; y++ {
		for x := 0; x < s.W; x++ {
			l = append(l, api.Cell{X: x, Y: y})
		}
	}
	return l
}

// field is one of costs from 0 up to most; other ones by each seed.
func field(s api.Size, seed, most int) api.Field {
	f := api.Field{Size: s}
	for i := range s.W * s.H {
		f.Cost = append(f.Cost, uint16((i*i*31+i*(seed+7)+seed*seed*5+seed)%(most+1)))
	}
	return f
}

// even is a field of one cost.
func even(s api.Size, cost uint16) api.Field {
	return api.Field{Size: s, Cost: slices.Repeat([]uint16{cost}, s.W*s.H)}
}

// faulty are fields that are not right, and why.
func faulty() map[api.Errno][]api.Field {
	l := map[api.Errno][]api.Field{}
	for _, s := range wrong() {
		// The size is held against first, however many costs there are.
		for _, n := range []int{0, 1, 9, 257} {
			l[api.ErrRange] = append(l[api.ErrRange], api.Field{Size: s, Cost: make([]uint16, n)})
		}
		l[api.ErrRange] = append(l[api.ErrRange], api.Field{Size: s})
	}
	for _, s := range maps() {
		n := s.W * s.H
		for _, k := range []int{0, n - 1, n + 1, 2 * n} {
			l[api.ErrLong] = append(l[api.ErrLong], api.Field{Size: s, Cost: make([]uint16, k)})
		}
		l[api.ErrLong] = append(l[api.ErrLong], api.Field{Size: s})
	}
	return l
}

// made is the map of a field; it fails, if there is none.
func made(t *testing.T, f api.Field) *grid.Grid {
	t.Helper()
	g, e := grid.New(f)
	if g == nil || e != api.OK {
		t.Fatalf("New of %v = %v, %v", f.Size, g, e)
	}
	return g
}

// holds fails, if a map's costs are not those of a field, told in whatever way.
func holds(t *testing.T, g *grid.Grid, f api.Field) {
	t.Helper()
	if g.Size() != f.Size {
		t.Fatalf("Size() = %v, not %v", g.Size(), f.Size)
	}
	for i, c := range all(f.Size) {
		if cost, e := g.Cost(c); cost != f.Cost[i] || e != api.OK {
			t.Fatalf("of %v: Cost(%v) = %d, %v, not %d", f.Size, c, cost, e, f.Cost[i])
		}
	}
	if own := g.Field(); own.Size != f.Size || !slices.Equal(own.Cost, f.Cost) {
		t.Fatalf("Field() of %v is another one", f.Size)
	}
}

// P4.1

func TestCheck(t *testing.T) {
	for _, s := range maps() {
		for _, f := range []api.Field{even(s, 0), even(s, 1), even(s, 65535), field(s, 3, 65535)} {
			if e := grid.Check(f); e != api.OK {
				t.Errorf("Check of %v: %v", s, e)
			}
		}
	}
	for fault, l := range faulty() {
		for _, f := range l {
			if e := grid.Check(f); e != fault {
				t.Errorf("Check of %v with %d costs: %v", f.Size, len(f.Cost), e)
			}
		}
	}
}

func TestNew(t *testing.T) {
	for _, s := range maps() {
		for _, f := range []api.Field{even(s, 0), even(s, 65535), field(s, 1, 9), field(s, 2, 65535)} {
			g := made(t, f)
			holds(t, g, f)
			if g.Edits() != 0 {
				t.Errorf("Edits() of a new map of %v = %d", s, g.Edits())
			}
		}
	}
	for fault, l := range faulty() {
		for _, f := range l {
			if g, e := grid.New(f); g != nil || e != fault {
				t.Errorf("New of %v with %d costs = %v, %v", f.Size, len(f.Cost), g, e)
			}
		}
	}
}

func TestNewKeepsNothingAndWritesNothing(t *testing.T) {
	s := api.Size{W: 2, H: 2}
	long := []uint16{1, 2, 3, 4, 77, 78}
	f := api.Field{Size: s, Cost: long[:4]}
	g, h := made(t, f), made(t, f)
	g.Edit(api.Edit{At: api.Cell{X: 1, Y: 1}, Cost: 9})
	if !slices.Equal(long, []uint16{1, 2, 3, 4, 77, 78}) {
		t.Error(long)
	}
	holds(t, h, f)
	long[0] = 5
	holds(t, g, api.Field{Size: s, Cost: []uint16{1, 2, 3, 9}})
	holds(t, h, api.Field{Size: s, Cost: []uint16{1, 2, 3, 4}})
}

func TestSame(t *testing.T) {
	size := api.Size{W: 2, H: 2}
	for i, c := range []struct {
		a, b api.Field
		want bool
	}{
		{api.Field{Size: size, Cost: []uint16{1, 2, 3, 4}}, api.Field{Size: size, Cost: []uint16{1, 2, 3, 4}}, true},
		{api.Field{Size: size, Cost: []uint16{1, 2, 3, 4}}, api.Field{Size: size, Cost: []uint16{1, 2, 4, 3}}, false},
		{api.Field{Size: size, Cost: []uint16{0, 2, 3, 4}}, api.Field{Size: size, Cost: []uint16{1, 2, 3, 4}}, false},
		{api.Field{Size: size, Cost: []uint16{1, 2, 3, 4}}, api.Field{Size: size, Cost: []uint16{1, 2, 3, 65535}}, false},
		{even(api.Size{W: 4, H: 1}, 1), even(api.Size{W: 1, H: 4}, 1), false},
		{even(api.Size{W: 4, H: 1}, 1), even(size, 1), false},
		// These are not right.
		{api.Field{}, api.Field{}, true},
		{api.Field{}, api.Field{Cost: []uint16{}}, true},
		{api.Field{}, api.Field{Size: size}, false},
		{api.Field{Size: size}, api.Field{Size: size}, true},
		{api.Field{Size: size}, api.Field{Size: size, Cost: []uint16{}}, true},
		{api.Field{Size: size}, api.Field{Size: size, Cost: []uint16{0, 0, 0, 0}}, false},
		{api.Field{Size: size, Cost: []uint16{1, 2}}, api.Field{Size: size, Cost: []uint16{1, 2}}, true},
		{api.Field{Size: size, Cost: []uint16{1, 2}}, api.Field{Size: size, Cost: []uint16{1, 2, 3}}, false},
		{api.Field{Size: api.Size{W: -1, H: math.MaxInt}, Cost: []uint16{7}}, api.Field{Size: api.Size{W: -1, H: math.MaxInt}, Cost: []uint16{7}}, true},
		{api.Field{Size: api.Size{W: -1, H: math.MaxInt}, Cost: []uint16{7}}, api.Field{Size: api.Size{W: -1, H: math.MinInt}, Cost: []uint16{7}}, false},
		{api.Field{Cost: []uint16{7, 8}}, api.Field{Cost: []uint16{7, 9}}, false},
	} {
		if grid.Same(c.a, c.b) != c.want || grid.Same(c.b, c.a) != c.want {
			t.Errorf("%d: Same(%v, %v) is not %v", i, c.a, c.b, c.want)
		}
		if !grid.Same(c.a, c.a) || !grid.Same(c.b, c.b) {
			t.Errorf("%d: not the same as itself", i)
		}
	}
}

func TestSameOfOneCostTurned(t *testing.T) {
	for _, s := range []api.Size{{W: 1, H: 1}, {W: 4, H: 3}, {W: 256, H: 2}} {
		f := field(s, 4, 65535)
		for i := range f.Cost {
			h := api.Field{Size: s, Cost: slices.Clone(f.Cost)}
			if !grid.Same(f, h) {
				t.Fatal(s, "not the same as its copy")
			}
			h.Cost[i] ^= 256
			if grid.Same(f, h) {
				t.Fatal(s, "the same, though number", i, "is not")
			}
		}
	}
}

// P4.2

func TestCostOffTheMap(t *testing.T) {
	for _, s := range maps() {
		g := made(t, even(s, 5))
		for _, c := range off(s) {
			if cost, e := g.Cost(c); cost != 0 || e != api.ErrRange {
				t.Errorf("Cost(%v) on %v = %d, %v", c, s, cost, e)
			}
		}
	}
}

func TestEdit(t *testing.T) {
	for _, s := range []api.Size{{W: 1, H: 1}, {W: 4, H: 3}, {W: 256, H: 2}, {W: 1, H: 256}} {
		f := field(s, 1, 65535)
		g := made(t, f)
		f.Cost = slices.Clone(f.Cost)
		turned := 0
		for n, cost := range []int{0, 0, 1, 65535, 65535, 65534, 256, 0} {
			for i, c := range all(s) {
				if (i+n)%3 == 1 && s.W*s.H > 1 {
					continue
				}
				was := int(f.Cost[i])
				if was != cost {
					turned++
				}
				f.Cost[i] = uint16(cost)
				if got, e := g.Edit(api.Edit{At: c, Cost: cost}); got != was || e != api.OK {
					t.Fatalf("of %v: Edit(%v, %d) = %d, %v, not %d", s, c, cost, got, e, was)
				}
				if g.Edits() != turned {
					t.Fatalf("of %v: Edits() = %d, not %d", s, g.Edits(), turned)
				}
			}
			holds(t, g, f)
		}
	}
}

func TestEditThatTurnsNothing(t *testing.T) {
	s := api.Size{W: 3, H: 2}
	f := field(s, 2, 65535)
	g := made(t, f)
	for i, c := range all(s) {
		for range 3 {
			if was, e := g.Edit(api.Edit{At: c, Cost: int(f.Cost[i])}); was != int(f.Cost[i]) || e != api.OK {
				t.Errorf("Edit of %v = %d, %v", c, was, e)
			}
		}
	}
	if g.Edits() != 0 {
		t.Error(g.Edits())
	}
	holds(t, g, f)
}

func TestEditsCountThereAndBack(t *testing.T) {
	g := made(t, even(api.Size{W: 2, H: 1}, 4))
	for n := 1; n <= 6; n++ {
		g.Edit(api.Edit{At: api.Cell{X: 1}, Cost: 4 + n%2})
		if g.Edits() != n {
			t.Error(g.Edits(), n)
		}
	}
	holds(t, g, even(api.Size{W: 2, H: 1}, 4))
}

func TestWrongEdits(t *testing.T) {
	for _, s := range []api.Size{{W: 1, H: 1}, {W: 4, H: 3}, {W: 256, H: 256}} {
		f := field(s, 3, 65535)
		g := made(t, f)
		g.Edit(api.Edit{Cost: int(f.Cost[0]) ^ 1})
		f.Cost[0] ^= 1
		for _, cost := range []int{-1, -65535, -65536, 65536, 65537, 1 << 17, math.MinInt, math.MinInt + 1, math.MaxInt} {
			// The cost is held against first, wherever the cell is.
			for _, c := range append(off(s), api.Cell{}, api.Cell{X: s.W - 1, Y: s.H - 1}) {
				if was, e := g.Edit(api.Edit{At: c, Cost: cost}); was != 0 || e != api.ErrArg {
					t.Errorf("of %v: Edit(%v, %d) = %d, %v", s, c, cost, was, e)
				}
			}
		}
		for _, c := range off(s) {
			for _, cost := range []int{0, 1, 65535} {
				if was, e := g.Edit(api.Edit{At: c, Cost: cost}); was != 0 || e != api.ErrRange {
					t.Errorf("of %v: Edit(%v, %d) = %d, %v", s, c, cost, was, e)
				}
			}
		}
		holds(t, g, f)
		if g.Edits() != 1 {
			t.Errorf("of %v: Edits() = %d", s, g.Edits())
		}
	}
}

func TestFieldIsNewEachTime(t *testing.T) {
	f := field(api.Size{W: 3, H: 2}, 5, 99)
	g := made(t, f)
	first, next := g.Field(), g.Field()
	for i := range first.Cost[:cap(first.Cost)] {
		first.Cost[:cap(first.Cost)][i] = 1000
	}
	holds(t, g, f)
	g.Edit(api.Edit{Cost: 2000})
	if !grid.Same(next, f) {
		t.Error(next)
	}
}

func TestNilMap(t *testing.T) {
	var g *grid.Grid
	if g.Size() != (api.Size{}) || g.Edits() != 0 {
		t.Error("a nil map has something")
	}
	if f := g.Field(); f.Size != (api.Size{}) || len(f.Cost) != 0 {
		t.Error(f)
	}
	for _, c := range []api.Cell{{}, {X: -1}, {X: math.MaxInt, Y: math.MinInt}} {
		if cost, e := g.Cost(c); cost != 0 || e != api.ErrNil {
			t.Errorf("Cost(%v) = %d, %v", c, cost, e)
		}
		for _, cost := range []int{-1, 0, 7, 65536} {
			if was, e := g.Edit(api.Edit{At: c, Cost: cost}); was != 0 || e != api.ErrNil {
				t.Errorf("Edit(%v, %d) = %d, %v", c, cost, was, e)
			}
		}
	}
}

// P4.3

func TestTurned(t *testing.T) {
	for _, s := range maps() {
		f := field(s, 1, 65535)
		for n := range 6 {
			other := api.Field{Size: s, Cost: slices.Clone(f.Cost)}
			var want []api.Cell
			for i, c := range all(s) {
				if []bool{false, true, i%3 == 1, i*i%7 < 3, i == 0, i == s.W*s.H-1}[n] {
					other.Cost[i] ^= uint16(1) << (i % 16)
					want = append(want, c)
				}
			}
			for _, way := range [][2]api.Field{{f, other}, {other, f}} {
				if l, e := grid.Turned(way[0], way[1]); !slices.Equal(l, want) || e != api.OK {
					t.Fatalf("of %v, %d: Turned tells %d cells, %v, not %d", s, n, len(l), e, len(want))
				}
			}
		}
	}
}

func TestTurnedOfWrongFields(t *testing.T) {
	right := even(api.Size{W: 4, H: 3}, 1)
	for fault, l := range faulty() {
		for _, f := range l {
			if c, e := grid.Turned(f, right); len(c) != 0 || e != fault {
				t.Errorf("Turned of %v first = %v, %v", f.Size, c, e)
			}
			if c, e := grid.Turned(right, f); len(c) != 0 || e != fault {
				t.Errorf("Turned of %v second = %v, %v", f.Size, c, e)
			}
			if c, e := grid.Turned(f, f); len(c) != 0 || e != fault {
				t.Errorf("Turned of %v twice = %v, %v", f.Size, c, e)
			}
		}
	}
	// The first field's error comes ahead of the second one's.
	long, size := api.Field{Size: api.Size{W: 2, H: 2}}, api.Field{Size: api.Size{W: 257, H: 1}}
	if c, e := grid.Turned(long, size); len(c) != 0 || e != api.ErrLong {
		t.Error(c, e)
	}
	if c, e := grid.Turned(size, long); len(c) != 0 || e != api.ErrRange {
		t.Error(c, e)
	}
}

func TestTurnedOfTwoSizes(t *testing.T) {
	for _, s := range maps() {
		for _, wide := range maps() {
			if s == wide {
				continue
			}
			if c, e := grid.Turned(even(s, 1), even(wide, 1)); len(c) != 0 || e != api.ErrArg {
				t.Errorf("Turned of %v and %v = %v, %v", s, wide, c, e)
			}
		}
	}
}

func TestFieldsAreNotWrittenInto(t *testing.T) {
	s := api.Size{W: 2, H: 1}
	long, other := []uint16{1, 2, 77}, []uint16{1, 3, 88}
	a, b := api.Field{Size: s, Cost: long[:2]}, api.Field{Size: s, Cost: other[:2]}
	grid.Check(a)
	grid.Same(a, b)
	grid.Print(a)
	l, _ := grid.Turned(a, b)
	for i := range l[:cap(l)] {
		l[:cap(l)][i] = api.Cell{X: 9, Y: 9}
	}
	if l, e := grid.Turned(a, b); !slices.Equal(l, []api.Cell{{X: 1}}) || e != api.OK {
		t.Error(l, e)
	}
	if !slices.Equal(long, []uint16{1, 2, 77}) || !slices.Equal(other, []uint16{1, 3, 88}) {
		t.Error(long, other)
	}
}

// P4.4

func TestPrint(t *testing.T) {
	for i, c := range []struct {
		f    api.Field
		want string
	}{
		{api.Field{Size: api.Size{W: 2, H: 2}, Cost: []uint16{1, 0, 7, 65535}}, "1 0\n7 65535\n"},
		{api.Field{Size: api.Size{W: 1, H: 1}, Cost: []uint16{0}}, "0\n"},
		{api.Field{Size: api.Size{W: 1, H: 1}, Cost: []uint16{65535}}, "65535\n"},
		{api.Field{Size: api.Size{W: 1, H: 3}, Cost: []uint16{9, 10, 100}}, "9\n10\n100\n"},
		{api.Field{Size: api.Size{W: 3, H: 1}, Cost: []uint16{9, 10, 100}}, "9 10 100\n"},
		{api.Field{Size: api.Size{W: 3, H: 2}, Cost: []uint16{1, 2, 3, 1000, 10000, 32768}}, "1 2 3\n1000 10000 32768\n"},
	} {
		if s, e := grid.Print(c.f); s != c.want || e != api.OK {
			t.Errorf("%d: Print = %q, %v", i, s, e)
		}
	}
	for fault, l := range faulty() {
		for _, f := range l {
			if s, e := grid.Print(f); s != "" || e != fault {
				t.Errorf("Print of %v with %d costs = %q, %v", f.Size, len(f.Cost), s, e)
			}
		}
	}
}

func TestPrintOfAsManyBytesAsMayBe(t *testing.T) {
	// 256 by 128 cells of three digits have just as many bytes as a text may have, and so have 256 by 256 of one.
	for _, f := range []api.Field{even(api.Size{W: 256, H: 128}, 999), even(api.Size{W: 256, H: 256}, 9)} {
		want := strings.Repeat(strings.Repeat(word(int(f.Cost[0]))+" ", 255)+word(int(f.Cost[0]))+"\n", f.Size.H)
		if s, e := grid.Print(f); len(want) != 131072 || s != want || e != api.OK {
			t.Errorf("Print of %v: %d bytes, %v", f.Size, len(s), e)
		}
		for _, at := range []int{0, 1000, len(f.Cost) - 1} {
			was := f.Cost[at]
			f.Cost[at] = 10 * was // a byte more
			if s, e := grid.Print(f); s != "" || e != api.ErrLong {
				t.Errorf("Print of %v and one byte more: %d bytes, %v", f.Size, len(s), e)
			}
			f.Cost[at] = was
		}
	}
	if s, e := grid.Print(even(api.Size{W: 256, H: 256}, 65535)); s != "" || e != api.ErrLong {
		t.Error(len(s), e)
	}
}

func TestParse(t *testing.T) {
	for i, c := range []struct {
		s    string
		want api.Field
	}{
		{"1 0\n7 65535\n", api.Field{Size: api.Size{W: 2, H: 2}, Cost: []uint16{1, 0, 7, 65535}}},
		{"0\n", api.Field{Size: api.Size{W: 1, H: 1}, Cost: []uint16{0}}},
		{"9\n10\n65534\n", api.Field{Size: api.Size{W: 1, H: 3}, Cost: []uint16{9, 10, 65534}}},
		{"1 22 333 4444 55555\n", api.Field{Size: api.Size{W: 5, H: 1}, Cost: []uint16{1, 22, 333, 4444, 55555}}},
		{strings.Repeat("1\n", 256), even(api.Size{W: 1, H: 256}, 1)},
		{strings.Repeat("0 ", 255) + "0\n", even(api.Size{W: 256, H: 1}, 0)},
		{strings.Repeat(strings.Repeat("8 ", 255)+"8\n", 256), even(api.Size{W: 256, H: 256}, 8)},
	} {
		f, row, e := grid.Parse(c.s)
		if row != 0 || e != api.OK || f.Size != c.want.Size || !slices.Equal(f.Cost, c.want.Cost) {
			t.Errorf("%d: Parse of %v: %v, %d costs, %d, %v", i, c.want.Size, f.Size, len(f.Cost), row, e)
		}
	}
}

// spoiled fails, if a text does not have that error in that row, or a field beside it.
func spoiled(t *testing.T, s string, row int, fault api.Errno) {
	t.Helper()
	f, n, e := grid.Parse(s)
	if n != row || e != fault || f.Size != (api.Size{}) || len(f.Cost) != 0 {
		t.Errorf("Parse of %.40q, %d bytes: %v, %d costs, row %d, %v; not row %d, %v", s, len(s), f.Size, len(f.Cost), n, e, row, fault)
	}
}

func TestParseOfWrongCosts(t *testing.T) {
	for _, piece := range []string{
		"", "00", "01", "007", "000000", "012345", "-1", "-0", "+1", "+0", "x", "1x", "x1", "1.0", "1e2", "0x1", "0b1", "1_0", "1,2", "\t", "1\t", "\t1", "1\r", "\r", "\x00", "1\x00", "\v1", "\u00a0", "\u0661", "\uff11", "\xff",
		"100000", "999999", "655350", "18446744073709551616", "18446744073709551617", "340282366920938463463374607431768211457", strings.Repeat("9", 5000), strings.Repeat("0", 6),
	} {
		for _, ahead := range []string{"", "1\n", "65535\n0\n"} {
			spoiled(t, ahead+piece+"\n", 1+strings.Count(ahead, "\n"), api.ErrForm)
		}
		spoiled(t, "1 "+piece+"\n", 1, api.ErrForm)
		spoiled(t, piece+" 1\n", 1, api.ErrForm)
		spoiled(t, "1 "+piece+" 1\n", 1, api.ErrForm)
		spoiled(t, "1 1\n1 "+piece+"\n1 1\n", 2, api.ErrForm)
	}
	for _, piece := range []string{"65536", "65537", "70000", "99999"} {
		spoiled(t, piece+"\n", 1, api.ErrRange)
		spoiled(t, "65535 "+piece+"\n", 1, api.ErrRange)
		spoiled(t, "1\n2\n"+piece+"\n4\n", 3, api.ErrRange)
	}
}

func TestParseOfWrongRows(t *testing.T) {
	row := strings.Repeat("1 ", 255) + "1\n"
	for _, c := range []struct {
		s     string
		row   int
		fault api.Errno
	}{
		// Of no bytes, and of rows without a line feed.
		{"", 1, api.ErrForm}, {"1", 1, api.ErrForm}, {" ", 1, api.ErrForm}, {"x", 1, api.ErrForm}, {"65536", 1, api.ErrForm},
		{"1\n1", 2, api.ErrForm}, {"1\n65536", 2, api.ErrForm}, {"1 1\n1", 2, api.ErrForm}, {"1\n1 1", 2, api.ErrForm}, {"1\n ", 2, api.ErrForm},
		{strings.Repeat("1 ", 256) + "1", 1, api.ErrForm}, {strings.Repeat("1\n", 256) + "1", 257, api.ErrForm},
		// Of rows with nothing in them, or too many blanks.
		{"\n", 1, api.ErrForm}, {"\n\n", 1, api.ErrForm}, {"1\n\n", 2, api.ErrForm}, {"1\n\n1\n", 2, api.ErrForm}, {" 1\n", 1, api.ErrForm}, {"1 \n", 1, api.ErrForm}, {"1  1\n", 1, api.ErrForm}, {" \n", 1, api.ErrForm}, {"1 1\r\n", 1, api.ErrForm},
		// Costs in order, the first one that is wrong.
		{"x 65536\n", 1, api.ErrForm}, {"65536 x\n", 1, api.ErrRange}, {"1 65536 01\n", 1, api.ErrRange}, {"1  65536\n", 1, api.ErrForm}, {"65536 100000\n", 1, api.ErrRange}, {"100000 65536\n", 1, api.ErrForm},
		// Costs ahead of how many there are.
		{strings.Repeat("1 ", 256) + "x\n", 1, api.ErrForm}, {strings.Repeat("1 ", 300) + "\n", 1, api.ErrForm}, {"1 1\nx\n", 2, api.ErrForm}, {"1 1\n65536\n", 2, api.ErrRange}, {"1 1\n1 1 x\n", 2, api.ErrForm},
		// More than 256, ahead of not as many as in the first row.
		{strings.Repeat("1 ", 256) + "1\n", 1, api.ErrRange}, {strings.Repeat("1 ", 65534) + "1\n", 1, api.ErrRange}, {"1\n" + strings.Repeat("1 ", 256) + "1\n", 2, api.ErrRange}, {row + strings.Repeat("1 ", 256) + "1\n", 2, api.ErrRange},
		// Not as many as in the first row.
		{"1 1\n1\n", 2, api.ErrLong}, {"1\n1 1\n", 2, api.ErrLong}, {"1 1\n1 1\n1 1 1\n", 3, api.ErrLong}, {"1\n" + row, 2, api.ErrLong}, {row + "1\n", 2, api.ErrLong}, {row + row[2:], 2, api.ErrLong}, {"1 1 1\n1 1\n1 1\n", 2, api.ErrLong},
		// The 257th row, when all else of it is right.
		{strings.Repeat("1\n", 257), 257, api.ErrRange}, {strings.Repeat("1\n", 300), 257, api.ErrRange}, {strings.Repeat("1\n", 65536), 257, api.ErrRange},
		{strings.Repeat("1\n", 256) + "x\n", 257, api.ErrForm}, {strings.Repeat("1\n", 256) + "\n", 257, api.ErrForm}, {strings.Repeat("1\n", 256) + "65536\n", 257, api.ErrRange}, {strings.Repeat("1\n", 256) + "1 1\n", 257, api.ErrLong}, {strings.Repeat("1\n", 256) + strings.Repeat("1 ", 256) + "1\n", 257, api.ErrRange},
		{strings.Repeat("1\n", 257) + "x\n", 257, api.ErrRange}, {strings.Repeat("1\n", 257) + "1", 257, api.ErrRange},
		{strings.Repeat("1\n", 255) + "x\n" + strings.Repeat("1\n", 4), 256, api.ErrForm},
		// Rows in order, the first one that is wrong.
		{"x\n1", 1, api.ErrForm}, {"1\n1 1\nx\n", 2, api.ErrLong}, {"65536\nx\n", 1, api.ErrRange}, {"1\n2 2\n" + strings.Repeat("1\n", 300), 2, api.ErrLong},
	} {
		spoiled(t, c.s, c.row, c.fault)
	}
}

func TestParseOfAsManyBytesAsMayBe(t *testing.T) {
	full := strings.Repeat(strings.Repeat("999 ", 255)+"999\n", 128)
	if f, row, e := grid.Parse(full); len(full) != 131072 || row != 0 || e != api.OK || !grid.Same(f, even(api.Size{W: 256, H: 128}, 999)) {
		t.Error(len(full), f.Size, row, e)
	}
	for _, more := range []string{"\n", "1", "x"} {
		spoiled(t, full+more, 0, api.ErrLong)
	}
	// How long it is comes ahead of all that is wrong in it.
	for _, c := range []string{"x", "\n", " ", "1\n", "1 ", "65536\n"} {
		s := strings.Repeat(c, 131073)
		spoiled(t, s[:131073], 0, api.ErrLong)
		if _, row, e := grid.Parse(s[:131072]); row == 0 || e == api.OK || e == api.ErrLong {
			t.Errorf("Parse of 131072 bytes of %q: %d, %v", c, row, e)
		}
	}
}

// word is how a number is written, told digit by digit.
func word(n int) string {
	if n < 10 {
		return "0123456789"[n : n+1]
	}
	return word(n/10) + word(n%10)
}

// costs are numbers of up to five digits, by how they are written.
func costs() map[string]int {
	l := map[string]int{}
	for n := range 100000 {
		l[word(n)] = n
	}
	return l
}

// judged is what the document says of a text that has less than 256 rows, and less costs in each: the row that is wrong, and why.
func judged(s string, known map[string]int) (int, api.Errno) {
	if s == "" {
		return 1, api.ErrForm
	}
	rows := strings.SplitAfter(s, "\n")
	if rows[len(rows)-1] == "" {
		rows = rows[:len(rows)-1]
	}
	wide := 0
	for i, row := range rows {
		if row[len(row)-1] != '\n' {
			return i + 1, api.ErrForm
		}
		pieces := strings.Split(row[:len(row)-1], " ")
		for _, piece := range pieces {
			if n, ok := known[piece]; !ok {
				return i + 1, api.ErrForm
			} else if n > 65535 {
				return i + 1, api.ErrRange
			}
		}
		if i == 0 {
			wide = len(pieces)
		}
		if len(pieces) != wide {
			return i + 1, api.ErrLong
		}
	}
	return 0, api.OK
}

func TestParseOfEachCost(t *testing.T) {
	for piece, n := range costs() {
		f, row, e := grid.Parse(piece + "\n")
		switch {
		case n <= 65535 && (row != 0 || e != api.OK || !grid.Same(f, even(api.Size{W: 1, H: 1}, uint16(n)))):
			t.Fatalf("Parse of %q: %v, %d, %v", piece, f, row, e)
		case n > 65535 && (row != 1 || e != api.ErrRange):
			t.Fatalf("Parse of %q: %v, %d, %v", piece, f, row, e)
		}
	}
}

// texts are all texts of so many pieces at most.
func texts(pieces []string, most int) []string {
	whole, longest := []string{""}, []string{""}
	for range most {
		var longer []string
		for _, s := range longest {
			for _, piece := range pieces {
				longer = append(longer, s+piece)
			}
		}
		whole, longest = append(whole, longer...), longer
	}
	return whole
}

func TestParseOfAllShortTexts(t *testing.T) {
	known := costs()
	for _, s := range texts([]string{"0", "1", "65535", "65536", " ", "\n", "x"}, 6) {
		wantRow, fault := judged(s, known)
		if fault != api.OK {
			spoiled(t, s, wantRow, fault)
			continue
		}
		f, row, e := grid.Parse(s)
		if row != 0 || e != api.OK {
			t.Errorf("Parse of %q: %d, %v", s, row, e)
		}
		if back, e := grid.Print(f); back != s || e != api.OK {
			t.Errorf("%q prints as %q, %v", s, back, e)
		}
	}
}

func TestParseIsNewEachTime(t *testing.T) {
	s := "1 2\n3 4\n"
	first, _, _ := grid.Parse(s)
	next, _, _ := grid.Parse(s)
	for i := range first.Cost[:cap(first.Cost)] {
		first.Cost[:cap(first.Cost)][i] = 9
	}
	if !slices.Equal(next.Cost, []uint16{1, 2, 3, 4}) {
		t.Error(next)
	}
}

// P4.5

func TestWhatIsPrintedIsParsed(t *testing.T) {
	for _, s := range maps() {
		for seed := range 4 {
			for _, most := range []int{1, 9, 99, 65535} {
				f := field(s, seed, most)
				text, e := grid.Print(f)
				if e == api.ErrLong && s.W*s.H == 65536 && most > 9 {
					continue
				}
				back, row, fault := grid.Parse(text)
				if e != api.OK || row != 0 || fault != api.OK || !grid.Same(back, f) {
					t.Fatalf("of %v, %d, %d: %v, %d, %v", s, seed, most, e, row, fault)
				}
				if again, _ := grid.Print(back); again != text {
					t.Fatalf("of %v, %d, %d: it prints as another text", s, seed, most)
				}
			}
		}
	}
}

func TestCostsAreThoseOfTheLastEdits(t *testing.T) {
	s := api.Size{W: 5, H: 4}
	f := field(s, 2, 65535)
	g := made(t, f)
	last := map[api.Cell]int{}
	for i, c := range all(s) {
		last[c] = int(f.Cost[i])
	}
	cells := all(s)
	for n := range 500 {
		e := api.Edit{At: cells[n*n*7%len(cells)], Cost: n * 7919 % 65536}
		if was, fault := g.Edit(e); was != last[e.At] || fault != api.OK {
			t.Fatal(n, was, fault)
		}
		last[e.At] = e.Cost
	}
	for i, c := range cells {
		f.Cost[i] = uint16(last[c])
	}
	holds(t, g, f)
}

func TestEditsOfWhatIsTurnedBringOneToTheOther(t *testing.T) {
	for _, s := range []api.Size{{W: 1, H: 1}, {W: 4, H: 3}, {W: 255, H: 7}} {
		for seed := range 8 {
			// Few costs, so that some cells of the two fields have the same one.
			a, b := field(s, seed, seed), field(s, 3*seed+1, seed)
			l, e := grid.Turned(a, b)
			if e != api.OK || (len(l) == 0) != grid.Same(a, b) {
				t.Fatalf("of %v, %d: %d cells are turned, Same is %v, %v", s, seed, len(l), grid.Same(a, b), e)
			}
			g, to := made(t, a), made(t, b)
			for _, c := range l {
				cost, _ := to.Cost(c)
				g.Edit(api.Edit{At: c, Cost: int(cost)})
			}
			if !grid.Same(g.Field(), b) || g.Edits() != len(l) {
				t.Fatalf("of %v, %d: %d edits don't bring one to the other", s, seed, g.Edits())
			}
		}
	}
}

func TestTheExample(t *testing.T) {
	f, row, e := grid.Parse("1 0\n7 65535\n")
	if row != 0 || e != api.OK {
		t.Fatal(row, e)
	}
	g := made(t, f)
	if was, e := g.Edit(api.Edit{At: api.Cell{X: 1}, Cost: 3}); was != 0 || e != api.OK {
		t.Error(was, e)
	}
	if l, e := grid.Turned(f, g.Field()); !slices.Equal(l, []api.Cell{{X: 1}}) || e != api.OK {
		t.Error(l, e)
	}
	if s, e := grid.Print(g.Field()); s != "1 3\n7 65535\n" || e != api.OK {
		t.Error(s, e)
	}
}
