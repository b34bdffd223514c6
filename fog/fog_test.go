package fog_test

import (
	"math"
	"slices"
	"testing"

	"gloaming/api"
	"gloaming/fog"
	"gloaming/mask"
)

// maps are sizes that may be, small ones and greatest ones.
func maps() []api.Size {
	return []api.Size{{W: 1, H: 1}, {W: 1, H: 5}, {W: 2, H: 1}, {W: 4, H: 3}, {W: 3, H: 4}, {W: 9, H: 9}, {W: 256, H: 1}, {W: 1, H: 256}, {W: 256, H: 256}}
}

// wrong are sizes that may not be.
func wrong() []api.Size {
	return []api.Size{{}, {W: 0, H: 1}, {W: 1, H: 0}, {W: 257, H: 1}, {W: 1, H: 257}, {W: -1, H: 1}, {W: 1, H: -1}, {W: -3, H: -3}, {W: 1 << 32, H: 1 << 32}, {W: math.MaxInt, H: math.MaxInt}, {W: math.MinInt, H: math.MinInt}}
}

// off are cells just off a map, and far from it.
func off(s api.Size) []api.Cell {
	return []api.Cell{
		{X: -1, Y: 0}, {X: 0, Y: -1}, {X: -1, Y: -1}, {X: -1, Y: 1},
		{X: s.W, Y: 0}, {X: s.W - 1, Y: -1}, {X: s.W, Y: s.H - 1},
		{X: 0, Y: s.H}, {X: -1, Y: s.H - 1}, {X: s.W - 1, Y: s.H}, {X: s.W, Y: s.H},
		{X: math.MaxInt, Y: 0}, {X: 0, Y: math.MaxInt}, {X: math.MinInt, Y: 0}, {X: 0, Y: math.MinInt},
		{X: math.MinInt, Y: math.MaxInt}, {X: math.MaxInt, Y: math.MaxInt},
	}
}

// all are the cells of a map, row by row.
func all(s api.Size) []api.Cell {
	var l []api.Cell
	for y := range s.H {
		for x := range s.W {
			l = append(l, api.Cell{X: x, Y: y})
		}
	}
	return l
}

// rand is numbers without a plain rule, others by each seed.
type rand uint64

// below is the next one, from 0 to n less 1.
func (r *rand) below(n int) int {
	*r = *r*6364136223846793005 + 1442695040888963407
	return int(uint64(*r) >> 33 % uint64(n))
}

// strewn is a field of few costs, so that often they are not turned: walls, hoped ones, and great ones.
func strewn(s api.Size, r *rand) api.Field {
	f := api.Field{Size: s}
	for range s.W * s.H {
		f.Cost = append(f.Cost, []uint16{0, 1, 2, 256, 65535}[r.below(5)])
	}
	return f
}

// even is a field of one cost.
func even(s api.Size, cost uint16) api.Field {
	return api.Field{Size: s, Cost: slices.Repeat([]uint16{cost}, s.W*s.H)}
}

// some are about so many in 100 of a map's cells, row by row.
func some(s api.Size, share int, r *rand) []api.Cell {
	var l []api.Cell
	for _, c := range all(s) {
		if r.below(100) < share {
			l = append(l, c)
		}
	}
	return l
}

// with is the set of those cells.
func with(t *testing.T, s api.Size, l ...api.Cell) *mask.Mask {
	t.Helper()
	m, e := mask.New(s)
	if m == nil || e != api.OK {
		t.Fatalf("mask.New(%v) = %v, %v", s, m, e)
	}
	for _, c := range l {
		if e := m.Set(c, true); e != api.OK {
			t.Fatalf("Set(%v) on %v: %v", c, s, e)
		}
	}
	return m
}

// fresh is a fog of which nothing was seen; it fails, if there is none.
func fresh(t *testing.T, s api.Size) *fog.Fog {
	t.Helper()
	g, e := fog.New(s)
	if g == nil || e != api.OK {
		t.Fatalf("New(%v) = %v, %v", s, g, e)
	}
	return g
}

// merged is what a merge tells; it fails, if that is an error.
func merged(t *testing.T, g *fog.Fog, f api.Field, l ...api.Cell) []api.Cell {
	t.Helper()
	found, e := g.Merge(f, with(t, f.Size, l...))
	if e != api.OK {
		t.Fatalf("Merge of %v: %v", f.Size, e)
	}
	return found
}

// plain is a fog, read from the chapter's words.
type plain struct {
	size    api.Size
	costs   map[api.Cell]uint16 // of the cells that were seen
	version int
}

// nothing is a plain fog of which nothing was seen.
func nothing(s api.Size) *plain {
	return &plain{size: s, costs: map[api.Cell]uint16{}}
}

// merge lets a plain fog see cells; those of which something is new.
func (p *plain) merge(f api.Field, l []api.Cell) []api.Cell {
	var found []api.Cell
	for i, c := range all(p.size) {
		if !slices.Contains(l, c) {
			continue
		}
		was, seen := p.costs[c]
		if !seen || was != f.Cost[i] {
			found = append(found, c)
		}
		p.costs[c] = f.Cost[i]
	}
	if len(found) > 0 {
		p.version++
	}
	return found
}

// holds fails, if a fog does not know just what a plain one does, told in whatever way.
func holds(t *testing.T, g *fog.Fog, p *plain) {
	t.Helper()
	if g.Version() != p.version {
		t.Fatalf("of %v: Version() = %d, not %d", p.size, g.Version(), p.version)
	}
	explored, view := g.Explored(), g.View()
	if explored.Size() != p.size || explored.Count() != len(p.costs) {
		t.Fatalf("of %v: Explored() is of %v, and has %d cells, not %d", p.size, explored.Size(), explored.Count(), len(p.costs))
	}
	if view.Size != p.size || len(view.Cost) != p.size.W*p.size.H {
		t.Fatalf("of %v: View() is of %v, with %d costs", p.size, view.Size, len(view.Cost))
	}
	for i, c := range all(p.size) {
		want, seen := p.costs[c]
		if cost, is := g.Known(c); cost != want || is != seen {
			t.Fatalf("of %v: Known(%v) = %d, %v, not %d, %v", p.size, c, cost, is, want, seen)
		}
		if explored.Has(c) != seen {
			t.Fatalf("of %v: Explored() has %v: %v", p.size, c, !seen)
		}
		if !seen {
			want = 1
		}
		if view.Cost[i] != want {
			t.Fatalf("of %v: the view of %v is %d, not %d", p.size, c, view.Cost[i], want)
		}
	}
}

// P6.1

func TestNew(t *testing.T) {
	for _, s := range maps() {
		holds(t, fresh(t, s), nothing(s))
	}
	for _, s := range wrong() {
		if g, e := fog.New(s); g != nil || e != api.ErrRange {
			t.Errorf("New(%v) = %v, %v", s, g, e)
		}
	}
}

func TestNewIsAFogOfItsOwn(t *testing.T) {
	s := api.Size{W: 2, H: 2}
	g, h := fresh(t, s), fresh(t, s)
	merged(t, g, even(s, 5), all(s)...)
	holds(t, h, nothing(s))
	holds(t, fresh(t, s), nothing(s))
}

// P6.2

func TestMergeOfTheExample(t *testing.T) {
	f := api.Field{Size: api.Size{W: 2, H: 1}, Cost: []uint16{7, 0}}
	g := fresh(t, f.Size)
	for i, want := range [][]api.Cell{{{X: 1}}, nil} {
		if l := merged(t, g, f, api.Cell{X: 1}); !slices.Equal(l, want) || g.Version() != 1 {
			t.Error(i, l, g.Version())
		}
		if l := g.View().Cost; !slices.Equal(l, []uint16{1, 0}) {
			t.Error(i, l)
		}
	}
}

func TestMergeAgain(t *testing.T) {
	r := rand(1)
	for _, s := range []api.Size{{W: 1, H: 1}, {W: 1, H: 5}, {W: 2, H: 1}, {W: 4, H: 3}, {W: 3, H: 4}, {W: 11, H: 7}} {
		for range 4 {
			g, p := fresh(t, s), nothing(s)
			f := strewn(s, &r)
			for range 30 {
				if r.below(3) == 0 {
					f.Cost[r.below(len(f.Cost))] = uint16(r.below(3))
				}
				if r.below(10) == 0 {
					f = strewn(s, &r)
				}
				l := some(s, []int{0, 5, 50, 100}[r.below(4)], &r)
				if found, want := merged(t, g, f, l...), p.merge(f, l); !slices.Equal(found, want) {
					t.Fatalf("of %v, cells %v: Merge = %v, not %v", f, l, found, want)
				}
				holds(t, g, p)
			}
		}
	}
}

func TestMergeOfEachCost(t *testing.T) {
	s, c := api.Size{W: 3, H: 2}, api.Cell{X: 1, Y: 1}
	costs := []uint16{0, 1, 2, 255, 256, 32767, 32768, 65535}
	for _, first := range costs {
		g, p := fresh(t, s), nothing(s)
		// Whatever a cell costs, be it a wall or as it is hoped for, it is new at first.
		if l := merged(t, g, even(s, first), c); !slices.Equal(l, []api.Cell{c}) {
			t.Errorf("cost %d is not new: %v", first, l)
		}
		p.merge(even(s, first), []api.Cell{c})
		holds(t, g, p)
		for _, next := range costs {
			for _, cost := range []uint16{next, next, first} { // another one, the same, and back
				l, want := merged(t, g, even(s, cost), c), p.merge(even(s, cost), []api.Cell{c})
				if !slices.Equal(l, want) {
					t.Errorf("from %d to %d: %v, not %v", first, next, l, want)
				}
				holds(t, g, p)
			}
		}
	}
}

func TestMergeOfEachCell(t *testing.T) {
	for _, s := range []api.Size{{W: 1, H: 1}, {W: 4, H: 3}, {W: 3, H: 4}, {W: 16, H: 1}} {
		g, p := fresh(t, s), nothing(s)
		r := rand(2)
		f := strewn(s, &r)
		for i, c := range all(s) {
			if l := merged(t, g, f, c); !slices.Equal(l, []api.Cell{c}) || g.Version() != i+1 {
				t.Errorf("of %v: seeing %v tells %v, version %d", s, c, l, g.Version())
			}
			p.merge(f, []api.Cell{c})
			holds(t, g, p)
		}
	}
}

func TestMergeOfNoCells(t *testing.T) {
	for _, s := range maps() {
		g := fresh(t, s)
		if l := merged(t, g, even(s, 0)); len(l) != 0 {
			t.Errorf("of %v: no cells tell %v", s, l)
		}
		holds(t, g, nothing(s))
	}
}

func TestMergeOfAllCells(t *testing.T) {
	r := rand(3)
	for _, s := range maps() {
		g, f := fresh(t, s), strewn(s, &r)
		cells := all(s)
		back := slices.Clone(cells)
		slices.Reverse(back) // whatever the order in which they came into the set
		if l := merged(t, g, f, back...); !slices.Equal(l, cells) || g.Version() != 1 {
			t.Errorf("of %v: all cells tell %d, version %d", s, len(l), g.Version())
		}
		last := len(cells) - 1
		f.Cost[last]++
		if l := merged(t, g, f, cells...); !slices.Equal(l, cells[last:]) || g.Version() != 2 {
			t.Errorf("of %v: the last cell tells %v, version %d", s, l, g.Version())
		}
	}
}

func TestMergeOfOneThatWasTurnedUnseen(t *testing.T) {
	s := api.Size{W: 3, H: 1}
	g := fresh(t, s)
	merged(t, g, even(s, 4), all(s)...)
	f := even(s, 9)
	if l := merged(t, g, f, api.Cell{X: 1}); !slices.Equal(l, []api.Cell{{X: 1}}) {
		t.Error(l)
	}
	if l := g.View().Cost; !slices.Equal(l, []uint16{4, 9, 4}) {
		t.Error(l)
	}
}

func TestMergeOfFaultyFields(t *testing.T) {
	for _, s := range []api.Size{{W: 1, H: 1}, {W: 4, H: 3}, {W: 256, H: 256}} {
		g, p := fresh(t, s), nothing(s)
		merged(t, g, even(s, 3), api.Cell{})
		p.merge(even(s, 3), []api.Cell{{}})
		n := s.W * s.H
		// A field's fault is told ahead of a set's size.
		for _, m := range []*mask.Mask{with(t, s, all(s)...), with(t, s), with(t, api.Size{W: 2, H: 2}, api.Cell{})} {
			for _, k := range []int{0, n - 1, n + 1, 2 * n} {
				if l, e := g.Merge(api.Field{Size: s, Cost: make([]uint16, k)}, m); len(l) != 0 || e != api.ErrLong {
					t.Errorf("of %v with %d costs: Merge = %v, %v", s, k, l, e)
				}
			}
			if l, e := g.Merge(api.Field{Size: s}, m); len(l) != 0 || e != api.ErrLong {
				t.Errorf("of %v without costs: Merge = %v, %v", s, l, e)
			}
			for _, size := range wrong() {
				for _, k := range []int{0, 1, n} {
					if l, e := g.Merge(api.Field{Size: size, Cost: make([]uint16, k)}, m); len(l) != 0 || e != api.ErrRange {
						t.Errorf("of %v: Merge of %v with %d costs = %v, %v", s, size, k, l, e)
					}
				}
			}
			// Of another size as well, and not right.
			if l, e := g.Merge(api.Field{Size: api.Size{W: 2, H: 2}, Cost: make([]uint16, n+4)}, m); len(l) != 0 || e != api.ErrLong {
				t.Errorf("of %v: Merge of 2 by 2 with %d costs = %v, %v", s, n+4, l, e)
			}
		}
		holds(t, g, p)
	}
}

func TestMergeOfNoSet(t *testing.T) {
	s := api.Size{W: 2, H: 2}
	g := fresh(t, s)
	// That there is no set is told first, whatever the field is.
	for _, f := range []api.Field{even(s, 1), even(api.Size{W: 3, H: 3}, 1), {Size: s}, {}, {Size: api.Size{W: -1, H: 257}}} {
		if l, e := g.Merge(f, nil); len(l) != 0 || e != api.ErrNil {
			t.Errorf("Merge of %v, nil = %v, %v", f.Size, l, e)
		}
	}
	holds(t, g, nothing(s))
}

func TestMergeOfOtherSizes(t *testing.T) {
	s := api.Size{W: 4, H: 3}
	g, p := fresh(t, s), nothing(s)
	merged(t, g, even(s, 3), api.Cell{X: 2, Y: 1})
	p.merge(even(s, 3), []api.Cell{{X: 2, Y: 1}})
	m := with(t, s, all(s)...)
	for _, other := range []api.Size{{W: 3, H: 4}, {W: 12, H: 1}, {W: 1, H: 12}, {W: 4, H: 4}, {W: 5, H: 3}, {W: 4, H: 2}, {W: 3, H: 3}, {W: 1, H: 1}, {W: 256, H: 256}} {
		for _, l := range [][]api.Cell{nil, {{}}, all(other)} {
			for i, c := range []struct {
				f api.Field
				m *mask.Mask
			}{{even(s, 9), with(t, other, l...)}, {even(other, 9), m}, {even(other, 9), with(t, other, l...)}} {
				if found, e := g.Merge(c.f, c.m); len(found) != 0 || e != api.ErrArg {
					t.Errorf("%d, of %v: Merge = %v, %v", i, other, found, e)
				}
			}
		}
		holds(t, g, p)
	}
}

func TestMergeKeepsNothingAndWritesNothing(t *testing.T) {
	s := api.Size{W: 2, H: 2}
	long := []uint16{5, 0, 1, 9, 77, 78}
	f := api.Field{Size: s, Cost: long[:4]}
	g, p := fresh(t, s), nothing(s)
	cells := []api.Cell{{X: 1}, {Y: 1}}
	m := with(t, s, cells...)
	found, _ := g.Merge(f, m)
	p.merge(f, cells)
	if !slices.Equal(long, []uint16{5, 0, 1, 9, 77, 78}) || !m.Same(with(t, s, cells...)) {
		t.Error("a merge writes", long, m.Bytes())
	}
	long[1] = 8
	m.Set(api.Cell{}, true)
	m.Set(api.Cell{X: 1}, false)
	whole := found[:cap(found)]
	for i := range whole {
		whole[i] = api.Cell{X: 1, Y: 1}
	}
	holds(t, g, p)
	next := merged(t, g, even(s, 6), cells...)
	if !slices.Equal(next, cells) || found[0] != (api.Cell{X: 1, Y: 1}) {
		t.Error("lists share something", next, found)
	}
}

// P6.3

func TestExploredIsNewMemory(t *testing.T) {
	s := api.Size{W: 3, H: 3}
	g, p := fresh(t, s), nothing(s)
	cells := []api.Cell{{X: 1}, {X: 2, Y: 2}}
	merged(t, g, even(s, 4), cells...)
	p.merge(even(s, 4), cells)
	first, next := g.Explored(), g.Explored()
	first.Set(api.Cell{}, true)
	first.Set(api.Cell{X: 1}, false)
	if !next.Same(with(t, s, cells...)) {
		t.Error("two sets share something", next.Bytes())
	}
	holds(t, g, p)
	merged(t, g, even(s, 4), api.Cell{Y: 1})
	if !next.Same(with(t, s, cells...)) {
		t.Error("a set is turned by a merge", next.Bytes())
	}
}

func TestViewIsNewMemory(t *testing.T) {
	s := api.Size{W: 2, H: 2}
	g, p := fresh(t, s), nothing(s)
	merged(t, g, even(s, 4), api.Cell{X: 1})
	p.merge(even(s, 4), []api.Cell{{X: 1}})
	first, next := g.View(), g.View()
	whole := first.Cost[:cap(first.Cost)]
	for i := range whole {
		whole[i] = 99
	}
	if !slices.Equal(next.Cost, []uint16{1, 4, 1, 1}) {
		t.Error("two views share something", next.Cost)
	}
	holds(t, g, p)
	merged(t, g, even(s, 7), all(s)...)
	if !slices.Equal(next.Cost, []uint16{1, 4, 1, 1}) {
		t.Error("a view is turned by a merge", next.Cost)
	}
}

func TestKnownOffTheMap(t *testing.T) {
	for _, s := range maps() {
		g := fresh(t, s)
		for range 2 {
			for _, c := range off(s) {
				if cost, is := g.Known(c); cost != 0 || is {
					t.Errorf("of %v: Known(%v) = %d, %v", s, c, cost, is)
				}
			}
			merged(t, g, even(s, 5), all(s)...)
		}
	}
}

func TestKnownOfNotSeen(t *testing.T) {
	s := api.Size{W: 3, H: 2}
	for _, seen := range all(s) {
		g := fresh(t, s)
		merged(t, g, even(s, 5), seen)
		for _, c := range all(s) {
			want, is := uint16(0), c == seen
			if is {
				want = 5
			}
			if cost, known := g.Known(c); cost != want || known != is {
				t.Errorf("%v was seen: Known(%v) = %d, %v", seen, c, cost, known)
			}
		}
	}
}

func TestVersion(t *testing.T) {
	s := api.Size{W: 5, H: 4}
	g := fresh(t, s)
	cells := all(s)
	for i, c := range []struct {
		cost uint16
		l    []api.Cell
		want int
	}{{1, nil, 0}, {1, cells[:7], 1}, {1, cells[:7], 1}, {1, cells[3:5], 1}, {1, cells[6:9], 2}, {0, cells[:1], 3}, {0, nil, 3}, {1, cells[:1], 4}, {0, cells, 5}, {0, cells, 5}} {
		merged(t, g, even(s, c.cost), c.l...)
		if g.Version() != c.want {
			t.Errorf("%d: Version() = %d, not %d", i, g.Version(), c.want)
		}
	}
}

func TestClone(t *testing.T) {
	r := rand(4)
	for _, s := range []api.Size{{W: 1, H: 1}, {W: 4, H: 3}, {W: 16, H: 2}} {
		for _, share := range []int{0, 40, 100} {
			g, p := fresh(t, s), nothing(s)
			for range 3 {
				f, l := strewn(s, &r), some(s, share, &r)
				merged(t, g, f, l...)
				p.merge(f, l)
			}
			h := g.Clone()
			if h == nil || h == g || !h.Same(g) || !g.Same(h) {
				t.Fatalf("of %v: a clone is not the same", s)
			}
			holds(t, h, p)
			// They go on as one.
			f, l := strewn(s, &r), some(s, 60, &r)
			want := p.merge(f, l)
			for _, one := range []*fog.Fog{g, h} {
				if found := merged(t, one, f, l...); !slices.Equal(found, want) {
					t.Errorf("of %v: %v, not %v", s, found, want)
				}
				holds(t, one, p)
			}
		}
	}
}

func TestCloneIsAFogOfItsOwn(t *testing.T) {
	s := api.Size{W: 2, H: 2}
	g, p := fresh(t, s), nothing(s)
	merged(t, g, even(s, 4), api.Cell{X: 1})
	p.merge(even(s, 4), []api.Cell{{X: 1}})
	h := g.Clone()
	merged(t, g, even(s, 5), all(s)...)
	holds(t, h, p)
	if h.Same(g) || g.Same(h) {
		t.Error("still the same")
	}
	h, p = g.Clone(), nothing(s)
	p.merge(even(s, 4), []api.Cell{{X: 1}})
	p.merge(even(s, 5), all(s))
	merged(t, h, even(s, 0), api.Cell{Y: 1})
	holds(t, g, p)
}

func TestSame(t *testing.T) {
	for _, s := range []api.Size{{W: 1, H: 1}, {W: 4, H: 3}, {W: 256, H: 2}} {
		r := rand(5)
		f := strewn(s, &r)
		cells := all(s)
		g := fresh(t, s)
		merged(t, g, f, cells...)
		if !g.Same(g) || !fresh(t, s).Same(fresh(t, s)) || g.Same(fresh(t, s)) || fresh(t, s).Same(g) {
			t.Errorf("of %v: Same of all and of nothing", s)
		}
		for i := range cells {
			less := fresh(t, s)
			merged(t, less, f, slices.Delete(slices.Clone(cells), i, i+1)...)
			if less.Same(g) || g.Same(less) {
				t.Errorf("of %v: the same, though %v was not seen", s, cells[i])
			}
			merged(t, less, f, cells[i])
			if !less.Same(g) || !g.Same(less) {
				t.Errorf("of %v: not the same, though all was seen", s)
			}
			other := g.Clone()
			turned := api.Field{Size: s, Cost: slices.Clone(f.Cost)}
			turned.Cost[i] ^= 256
			merged(t, other, turned, cells[i])
			if other.Same(g) || g.Same(other) {
				t.Errorf("of %v: the same, though the cost of %v is another", s, cells[i])
			}
		}
	}
}

func TestSameWhateverTheVersions(t *testing.T) {
	s := api.Size{W: 3, H: 1}
	g, h := fresh(t, s), fresh(t, s)
	merged(t, g, even(s, 4), all(s)...)
	for _, cost := range []uint16{0, 7, 4} {
		for _, c := range all(s) {
			merged(t, h, even(s, cost), c)
		}
	}
	if g.Version() != 1 || h.Version() != 9 || !g.Same(h) || !h.Same(g) {
		t.Error(g.Version(), h.Version(), g.Same(h), h.Same(g))
	}
}

func TestSameOfWhatOnlyLooksTheSame(t *testing.T) {
	// Seen at the cost that is hoped for, the view is the same, and with a wall the costs are noughts.
	s := api.Size{W: 2, H: 2}
	for _, cost := range []uint16{0, 1} {
		g, h := fresh(t, s), fresh(t, s)
		merged(t, g, even(s, cost), api.Cell{X: 1})
		if g.Same(h) || h.Same(g) {
			t.Errorf("the same, though a cell of cost %d was seen", cost)
		}
		merged(t, h, even(s, cost), api.Cell{Y: 1})
		if g.Same(h) || h.Same(g) {
			t.Errorf("the same, though other cells of cost %d were seen", cost)
		}
	}
}

func TestSameOfOtherSizes(t *testing.T) {
	for _, s := range maps() {
		for _, other := range maps() {
			g, h := fresh(t, s), fresh(t, other)
			if got := g.Same(h); got != (s == other) {
				t.Errorf("Same of %v and %v: %v", s, other, got)
			}
			merged(t, g, even(s, 2), all(s)...)
			merged(t, h, even(other, 2), all(other)...)
			if got := g.Same(h); got != (s == other) {
				t.Errorf("Same of %v and %v, all seen: %v", s, other, got)
			}
		}
	}
}

func TestNilFog(t *testing.T) {
	var none *fog.Fog
	s := api.Size{W: 2, H: 2}
	g := fresh(t, s)
	if m := none.Explored(); m != nil {
		t.Error(m)
	}
	for _, c := range []api.Cell{{}, {X: -1}, {X: math.MaxInt, Y: math.MinInt}} {
		if cost, is := none.Known(c); cost != 0 || is {
			t.Errorf("Known(%v) = %d, %v", c, cost, is)
		}
	}
	if f := none.View(); f.Size != (api.Size{}) || len(f.Cost) != 0 {
		t.Error(f)
	}
	if none.Version() != 0 || none.Clone() != nil {
		t.Error("a nil fog has something")
	}
	if !none.Same(nil) || none.Same(g) || g.Same(nil) {
		t.Error("a nil fog is the same as another one, or not as a nil one")
	}
	for _, f := range []api.Field{even(s, 1), {}, {Size: s}} {
		for _, m := range []*mask.Mask{nil, with(t, s, api.Cell{}), with(t, api.Size{W: 3, H: 3})} {
			if l, e := none.Merge(f, m); len(l) != 0 || e != api.ErrNil {
				t.Errorf("Merge of %v = %v, %v", f.Size, l, e)
			}
		}
	}
	holds(t, g, nothing(s))
}

// P6.4

func TestWhatIsKnownHangsOnWhatWasSeenAlone(t *testing.T) {
	r := rand(6)
	for _, s := range []api.Size{{W: 1, H: 1}, {W: 5, H: 4}, {W: 20, H: 3}} {
		for range 20 {
			g, h := fresh(t, s), fresh(t, s)
			for range 6 {
				l := some(s, []int{0, 10, 50, 90}[r.below(4)], &r)
				f, other := strewn(s, &r), strewn(s, &r)
				m := with(t, s, l...)
				for i, c := range all(s) {
					if m.Has(c) {
						other.Cost[i] = f.Cost[i]
					}
				}
				one, two := merged(t, g, f, l...), merged(t, h, other, l...)
				if !slices.Equal(one, two) || g.Version() != h.Version() || !g.Same(h) {
					t.Fatalf("of %v: what is not seen turns what is known", s)
				}
				if !slices.Equal(g.View().Cost, h.View().Cost) || !g.Explored().Same(h.Explored()) {
					t.Fatalf("of %v: what is not seen turns what is told", s)
				}
			}
		}
	}
}

func TestWhatWasSeenStaysSeen(t *testing.T) {
	r := rand(7)
	for _, s := range []api.Size{{W: 1, H: 1}, {W: 6, H: 5}} {
		g := fresh(t, s)
		want := with(t, s)
		last := map[api.Cell]uint16{}
		for range 40 {
			f, l := strewn(s, &r), some(s, 10, &r)
			merged(t, g, f, l...)
			want.Add(with(t, s, l...))
			for _, c := range l {
				last[c] = f.Cost[c.Y*s.W+c.X]
			}
			if !g.Explored().Same(want) {
				t.Fatalf("of %v: other cells were seen", s)
			}
			for c, cost := range last {
				if known, is := g.Known(c); known != cost || !is {
					t.Fatalf("of %v: Known(%v) = %d, %v, not the %d of the last time", s, c, known, is, cost)
				}
			}
		}
	}
}

func TestWhoSeesTheSameLearnsNothing(t *testing.T) {
	r := rand(8)
	for _, s := range []api.Size{{W: 1, H: 1}, {W: 7, H: 4}, {W: 256, H: 3}} {
		g := fresh(t, s)
		for range 10 {
			f, l := strewn(s, &r), some(s, 50, &r)
			merged(t, g, f, l...)
			was := g.Clone()
			for n := range min(len(l)+1, 4) { // the whole, and ever less of it
				if found := merged(t, g, f, l[n:]...); len(found) != 0 || g.Version() != was.Version() || !g.Same(was) {
					t.Fatalf("of %v: the same once more tells %v, version %d", s, found, g.Version())
				}
			}
		}
	}
}

func TestOnceAllWasSeenTheViewIsTheMap(t *testing.T) {
	r := rand(9)
	for _, s := range maps() {
		g, f := fresh(t, s), strewn(s, &r)
		merged(t, g, strewn(s, &r), some(s, 50, &r)...) // of another map ahead
		half := len(f.Cost) / 2
		merged(t, g, f, all(s)[half:]...)
		merged(t, g, f, all(s)[:half]...)
		if view := g.View(); view.Size != s || !slices.Equal(view.Cost, f.Cost) {
			t.Errorf("of %v: the view is not the map", s)
		}
		if n := g.Explored().Count(); n != s.W*s.H {
			t.Errorf("of %v: %d cells were seen", s, n)
		}
	}
}
