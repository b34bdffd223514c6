package mask_test

import (
	"math"
	"slices"
	"testing"

	"gloaming/api"
	"gloaming/mask"
)

// maps are sizes that may be: of less cells than a byte has bits, of just as many, of one more, and greatest ones.
func maps() []api.Size {
	return []api.Size{{W: 1, H: 1}, {W: 7, H: 1}, {W: 1, H: 8}, {W: 4, H: 2}, {W: 3, H: 3}, {W: 10, H: 7}, {W: 16, H: 5}, {W: 5, H: 3}, {W: 256, H: 1}, {W: 1, H: 255}, {W: 255, H: 255}, {W: 256, H: 256}}
}

// wrong are sizes that may not be.
func wrong() []api.Size {
	return []api.Size{{}, {W: 0, H: 1}, {W: 1, H: 0}, {W: 257, H: 1}, {W: 1, H: 257}, {W: -1, H: 1}, {W: 1, H: -1}, {W: -3, H: -3}, {W: 1 << 32, H: 1 << 32}, {W: math.MaxInt, H: math.MaxInt}, {W: math.MinInt, H: math.MinInt}}
}

// off are cells just off a map, and far from it.
func off(s api.Size) []api.Cell {
	return []api.Cell{
		{X: -1, Y: 0}, {X: 0, Y: -1}, {X: -1, Y: -1}, {X: -1, Y: 1},
		{X: s.W, Y: 0}, {X: s.W - 1, Y: -1}, {X: s.W, Y: s.H - 1},
		{X: 0, Y: s.H}, {X: -1, Y: s.H - 1}, {X: s.W - 1, Y: s.H}, {X: s.W, Y: s.H},
		{X: math.MaxInt, Y: 0}, {X: 0, Y: math.MaxInt}, {X: math.MinInt, Y: 0}, {X: 0, Y: math.MinInt},
		{X: math.MinInt, Y: math.MaxInt}, {X: math.MaxInt, Y: math.MaxInt},
	}
}

// all are the cells of a map, row by row.
func all(s api.Size) []api.Cell {
	var l []api.Cell
	for y := 0; y < s.H; y++ {
		for x := 0; x < s.W; x++ {
			l = append(l, api.Cell{X: x, Y: y})
		}
	}
	return l
}

// patterns are rules by which numbers are in a set: none, all, every other one, and ones that follow no byte.
func patterns() []func(i int) bool {
	return []func(i int) bool{
		func(i int) bool { return false },
		func(i int) bool { return true },
		func(i int) bool { return i%2 == 0 },
		func(i int) bool { return i%2 == 1 },
		func(i int) bool { return i%3 == 1 },
		func(i int) bool { return i*i%7 < 3 },
		func(i int) bool { return i*i%11 > 4 && i%5 != 0 },
		func(i int) bool { return i == 0 },
	}
}

// empty is a set without cells.
func empty(t *testing.T, s api.Size) *mask.Mask {
	t.Helper()
	m, e := mask.New(s)
	if m == nil || e != api.OK {
		t.Fatalf("New(%v) = %v, %v", s, m, e)
	}
	return m
}

// with is the set of those cells.
func with(t *testing.T, s api.Size, l ...api.Cell) *mask.Mask {
	t.Helper()
	m := empty(t, s)
	for _, c := range l {
		if e := m.Set(c, true); e != api.OK {
			t.Fatalf("Set(%v) on %v: %v", c, s, e)
		}
	}
	return m
}

// picked are the cells of a map whose numbers follow a rule, row by row.
func picked(s api.Size, rule func(i int) bool) []api.Cell {
	var l []api.Cell
	for i, c := range all(s) {
		if rule(i) {
			l = append(l, c)
		}
	}
	return l
}

// holds fails, if a set does not have just those cells, told in whatever way.
func holds(t *testing.T, m *mask.Mask, l []api.Cell) {
	t.Helper()
	in := map[api.Cell]bool{}
	for _, c := range l {
		in[c] = true
	}
	for _, c := range all(m.Size()) {
		if m.Has(c) != in[c] {
			t.Fatalf("of %v: Has(%v) = %v", m.Size(), c, m.Has(c))
		}
	}
	if m.Count() != len(in) {
		t.Fatalf("of %v: Count() = %d, not %d", m.Size(), m.Count(), len(in))
	}
}

// P2.1

func TestNew(t *testing.T) {
	for _, s := range maps() {
		m := empty(t, s)
		if m.Size() != s {
			t.Errorf("Size() = %v, not %v", m.Size(), s)
		}
		holds(t, m, nil)
	}
	for _, s := range wrong() {
		if m, e := mask.New(s); m != nil || e != api.ErrRange {
			t.Errorf("New(%v) = %v, %v", s, m, e)
		}
	}
}

func TestNewIsASetOfItsOwn(t *testing.T) {
	s := api.Size{W: 4, H: 4}
	m, n := empty(t, s), empty(t, s)
	m.Set(api.Cell{X: 1, Y: 1}, true)
	holds(t, n, nil)
}

func TestSetOneByOne(t *testing.T) {
	for _, s := range []api.Size{{W: 1, H: 1}, {W: 3, H: 3}, {W: 10, H: 7}, {W: 16, H: 5}} {
		m := empty(t, s)
		cells := all(s)
		for i, c := range cells {
			if e := m.Set(c, true); e != api.OK {
				t.Fatal(s, c, e)
			}
			holds(t, m, cells[:i+1])
		}
		for i, c := range cells {
			if e := m.Set(c, false); e != api.OK {
				t.Fatal(s, c, e)
			}
			holds(t, m, cells[i+1:])
		}
	}
}

func TestSetOfPatterns(t *testing.T) {
	for _, s := range maps() {
		for _, rule := range patterns() {
			l := picked(s, rule)
			holds(t, with(t, s, l...), l)
		}
	}
}

func TestSetTwice(t *testing.T) {
	s, c, d := api.Size{W: 9, H: 2}, api.Cell{X: 8, Y: 0}, api.Cell{X: 7, Y: 0}
	m := with(t, s, c, c)
	holds(t, m, []api.Cell{c})
	for range 2 {
		if e := m.Set(d, false); e != api.OK {
			t.Error(e)
		}
		holds(t, m, []api.Cell{c})
	}
	for range 2 {
		if e := m.Set(c, false); e != api.OK {
			t.Error(e)
		}
		holds(t, m, nil)
	}
}

func TestSetOffTheMap(t *testing.T) {
	for _, s := range maps() {
		for _, full := range []bool{false, true} {
			l := picked(s, func(int) bool { return full })
			m := with(t, s, l...)
			for _, c := range off(s) {
				for _, in := range []bool{false, true} {
					if e := m.Set(c, in); e != api.ErrRange {
						t.Errorf("Set(%v, %v) on %v: %v", c, in, s, e)
					}
				}
				if m.Has(c) {
					t.Errorf("%v is in a set of %v", c, s)
				}
			}
			holds(t, m, l)
		}
	}
}

// P2.2

func TestAddAndKeepOfPatterns(t *testing.T) {
	for _, s := range []api.Size{{W: 1, H: 1}, {W: 7, H: 1}, {W: 4, H: 2}, {W: 3, H: 3}, {W: 10, H: 7}, {W: 255, H: 3}} {
		for _, one := range patterns() {
			for _, two := range patterns() {
				l, k := picked(s, one), picked(s, two)
				either := picked(s, func(i int) bool { return one(i) || two(i) })
				both := picked(s, func(i int) bool { return one(i) && two(i) })
				other := with(t, s, k...)

				m := with(t, s, l...)
				if n, e := m.Add(other); n != len(either)-len(l) || e != api.OK {
					t.Fatalf("of %v: Add = %d, %v", s, n, e)
				}
				holds(t, m, either)

				m = with(t, s, l...)
				if n, e := m.Keep(other); n != len(l)-len(both) || e != api.OK {
					t.Fatalf("of %v: Keep = %d, %v", s, n, e)
				}
				holds(t, m, both)
				holds(t, other, k)
			}
		}
	}
}

func TestAddOfTheExample(t *testing.T) {
	s := api.Size{W: 3, H: 3}
	m := with(t, s, api.Cell{}, api.Cell{X: 2}, api.Cell{X: 2, Y: 2})
	if n, e := m.Add(with(t, s, api.Cell{X: 2, Y: 2}, api.Cell{X: 1, Y: 1})); n != 1 || e != api.OK {
		t.Error(n, e)
	}
}

func TestAddAndKeepOfTheGreatestMap(t *testing.T) {
	s := api.Size{W: 256, H: 256}
	m := with(t, s, api.Cell{})
	if n, e := m.Add(with(t, s, all(s)...)); n != 65535 || e != api.OK {
		t.Error(n, e)
	}
	if n, e := m.Keep(with(t, s, api.Cell{X: 255, Y: 255})); n != 65535 || e != api.OK {
		t.Error(n, e)
	}
	holds(t, m, []api.Cell{{X: 255, Y: 255}})
}

func TestAddAndKeepOfItself(t *testing.T) {
	s := api.Size{W: 3, H: 3}
	l := []api.Cell{{X: 1}, {X: 2, Y: 2}}
	m := with(t, s, l...)
	if n, e := m.Add(m); n != 0 || e != api.OK {
		t.Error(n, e)
	}
	if n, e := m.Keep(m); n != 0 || e != api.OK {
		t.Error(n, e)
	}
	holds(t, m, l)
}

func TestAddAndKeepShareNothing(t *testing.T) {
	s := api.Size{W: 3, H: 3}
	n := with(t, s, api.Cell{X: 1})
	added := empty(t, s)
	added.Add(n)
	kept := with(t, s, all(s)...)
	kept.Keep(n)
	n.Set(api.Cell{Y: 2}, true)
	holds(t, added, []api.Cell{{X: 1}})
	holds(t, kept, []api.Cell{{X: 1}})
	added.Set(api.Cell{X: 2}, true)
	kept.Set(api.Cell{X: 1}, false)
	holds(t, n, []api.Cell{{X: 1}, {Y: 2}})
}

func TestAddAndKeepOfWrongSets(t *testing.T) {
	s := api.Size{W: 3, H: 4}
	l := []api.Cell{{}, {X: 2, Y: 3}}
	m := with(t, s, l...)
	for _, wide := range []api.Size{{W: 4, H: 3}, {W: 3, H: 3}, {W: 12, H: 1}, {W: 4, H: 4}, {W: 256, H: 256}, {W: 1, H: 1}} {
		other := with(t, wide, all(wide)...)
		if n, e := m.Add(other); n != 0 || e != api.ErrArg {
			t.Errorf("Add of %v to %v = %d, %v", wide, s, n, e)
		}
		if n, e := m.Keep(other); n != 0 || e != api.ErrArg {
			t.Errorf("Keep of %v in %v = %d, %v", wide, s, n, e)
		}
		if n, e := m.Keep(empty(t, wide)); n != 0 || e != api.ErrArg {
			t.Errorf("Keep of none of %v in %v = %d, %v", wide, s, n, e)
		}
		holds(t, other, all(wide))
	}
	if n, e := m.Add(nil); n != 0 || e != api.ErrNil {
		t.Error(n, e)
	}
	if n, e := m.Keep(nil); n != 0 || e != api.ErrNil {
		t.Error(n, e)
	}
	holds(t, m, l)
}

func TestSame(t *testing.T) {
	for _, s := range []api.Size{{W: 1, H: 1}, {W: 4, H: 2}, {W: 3, H: 3}, {W: 10, H: 7}} {
		for i, one := range patterns() {
			for j, two := range patterns() {
				l, k := picked(s, one), picked(s, two)
				if got := with(t, s, l...).Same(with(t, s, k...)); got != slices.Equal(l, k) {
					t.Errorf("of %v, %d and %d: Same = %v", s, i, j, got)
				}
			}
		}
	}
	s := api.Size{W: 3, H: 3}
	m := with(t, s, api.Cell{X: 2, Y: 2})
	for _, c := range all(s) {
		if got := m.Same(with(t, s, c)); got != (c == api.Cell{X: 2, Y: 2}) {
			t.Errorf("Same as that of %v: %v", c, got)
		}
	}
	if !m.Same(m) {
		t.Error("not the same as itself")
	}
}

func TestSameOfOtherSizes(t *testing.T) {
	for _, s := range maps() {
		for _, wide := range maps() {
			if got := empty(t, s).Same(empty(t, wide)); got != (s == wide) {
				t.Errorf("Same of %v and %v: %v", s, wide, got)
			}
		}
	}
	// Of the same bytes, but not of one size.
	if with(t, api.Size{W: 3, H: 4}, api.Cell{}).Same(with(t, api.Size{W: 4, H: 3}, api.Cell{})) {
		t.Error("3 by 4 is 4 by 3")
	}
}

func TestSameTakesWhatWasThereOut(t *testing.T) {
	s := api.Size{W: 5, H: 5}
	m, n := with(t, s, all(s)...), with(t, s, api.Cell{X: 4, Y: 4})
	for _, c := range all(s) {
		m.Set(c, false)
	}
	n.Keep(m)
	if !m.Same(n) || !n.Same(empty(t, s)) {
		t.Error("sets without cells are not the same")
	}
}

func TestClone(t *testing.T) {
	for _, s := range maps() {
		for _, rule := range patterns() {
			l := picked(s, rule)
			m := with(t, s, l...)
			n := m.Clone()
			if n == nil || n == m || n.Size() != s || !n.Same(m) || !m.Same(n) {
				t.Fatalf("of %v: a clone is not the same", s)
			}
			holds(t, n, l)
		}
	}
}

func TestCloneIsASetOfItsOwn(t *testing.T) {
	s := api.Size{W: 3, H: 3}
	m := with(t, s, api.Cell{X: 1})
	n := m.Clone()
	n.Set(api.Cell{X: 2}, true)
	holds(t, m, []api.Cell{{X: 1}})
	m.Set(api.Cell{X: 1}, false)
	holds(t, n, []api.Cell{{X: 1}, {X: 2}})
	if m.Same(n) {
		t.Error("still the same")
	}
}

// P2.3

func TestCells(t *testing.T) {
	for _, s := range maps() {
		for i, rule := range patterns() {
			l := picked(s, rule)
			back := slices.Clone(l)
			slices.Reverse(back)
			cells := with(t, s, back...).Cells() // whatever the order they came in
			for range 2 {                        // it may be gone through again
				if got := slices.Collect(cells); !slices.Equal(got, l) {
					t.Fatalf("of %v, %d: %v", s, i, got)
				}
			}
		}
	}
}

func TestCellsAreThoseAsTheyAreAskedFor(t *testing.T) {
	m := with(t, api.Size{W: 3, H: 3}, api.Cell{X: 1})
	cells := m.Cells()
	m.Set(api.Cell{Y: 2}, true)
	if l := slices.Collect(cells); !slices.Equal(l, []api.Cell{{X: 1}, {Y: 2}}) {
		t.Error(l)
	}
	m.Set(api.Cell{X: 1}, false)
	if l := slices.Collect(cells); !slices.Equal(l, []api.Cell{{Y: 2}}) {
		t.Error(l)
	}
}

func TestCellsAreEnded(t *testing.T) {
	s := api.Size{W: 5, H: 4}
	whole := picked(s, func(i int) bool { return i%3 != 1 })
	m := with(t, s, whole...)
	for n := 1; n <= len(whole); n++ {
		var l []api.Cell
		m.Cells()(func(c api.Cell) bool {
			l = append(l, c)
			return len(l) < n
		})
		if !slices.Equal(l, whole[:n]) {
			t.Errorf("ended behind %d: %v", n, l)
		}
	}
	holds(t, m, whole)
}

func TestCellsEndWhateverIsTurned(t *testing.T) {
	s := api.Size{W: 6, H: 6}
	for _, in := range []bool{false, true} {
		m := with(t, s, picked(s, func(i int) bool { return i%2 == 0 })...)
		n := 0
		for range m.Cells() {
			for _, c := range all(s) {
				m.Set(c, in)
			}
			n++
		}
		if n > 36 {
			t.Error(n)
		}
	}
}

func TestBytes(t *testing.T) {
	for i, c := range []struct {
		s    api.Size
		l    []api.Cell
		want []byte
	}{
		{api.Size{W: 3, H: 3}, []api.Cell{{}, {X: 2}, {X: 2, Y: 2}}, []byte{5, 1}},
		{api.Size{W: 3, H: 3}, nil, []byte{0, 0}},
		{api.Size{W: 3, H: 3}, all(api.Size{W: 3, H: 3}), []byte{255, 1}},
		{api.Size{W: 1, H: 1}, nil, []byte{0}},
		{api.Size{W: 1, H: 1}, []api.Cell{{}}, []byte{1}},
		{api.Size{W: 7, H: 1}, []api.Cell{{X: 6}}, []byte{64}},
		{api.Size{W: 1, H: 8}, []api.Cell{{Y: 7}}, []byte{128}},
		{api.Size{W: 4, H: 2}, []api.Cell{{Y: 1}}, []byte{16}},
		{api.Size{W: 9, H: 1}, []api.Cell{{X: 8}}, []byte{0, 1}},
		{api.Size{W: 5, H: 3}, []api.Cell{{X: 1}, {X: 0, Y: 2}, {X: 4, Y: 2}}, []byte{2, 68}},
	} {
		if b := with(t, c.s, c.l...).Bytes(); !slices.Equal(b, c.want) {
			t.Error(i, b)
		}
	}
}

func TestBytesBitByBit(t *testing.T) {
	for _, s := range maps() {
		for _, rule := range patterns() {
			want := make([]byte, (s.W*s.H+7)/8)
			for i := range s.W * s.H {
				if rule(i) {
					want[i/8] += []byte{1, 2, 4, 8, 16, 32, 64, 128}[i%8]
				}
			}
			l := picked(s, rule)
			if b := with(t, s, l...).Bytes(); !slices.Equal(b, want) {
				t.Fatalf("of %v: %v, not %v", s, b, want)
			}
			m, e := mask.Of(s, want)
			if m == nil || e != api.OK || m.Size() != s {
				t.Fatalf("Of(%v): %v", s, e)
			}
			holds(t, m, l)
		}
	}
}

func TestBytesAreNewEachTime(t *testing.T) {
	s := api.Size{W: 3, H: 3}
	m := with(t, s, api.Cell{X: 1})
	b := m.Bytes()
	for i := range b[:cap(b)] {
		b[:cap(b)][i] = 255
	}
	holds(t, m, []api.Cell{{X: 1}})
	if c := m.Bytes(); !slices.Equal(c, []byte{2, 0}) {
		t.Error(c)
	}
	c := m.Bytes()
	m.Set(api.Cell{X: 2}, true)
	if !slices.Equal(c, []byte{2, 0}) {
		t.Error(c)
	}
}

func TestOfKeepsNothingAndWritesNothing(t *testing.T) {
	s := api.Size{W: 3, H: 3}
	long := []byte{2, 0, 77, 78}
	m, e := mask.Of(s, long[:2])
	if m == nil || e != api.OK {
		t.Fatal(e)
	}
	m.Set(api.Cell{X: 2, Y: 2}, true)
	m.Add(m.Clone())
	if !slices.Equal(long, []byte{2, 0, 77, 78}) {
		t.Error(long)
	}
	long[0], long[1] = 255, 255
	holds(t, m, []api.Cell{{X: 1}, {X: 2, Y: 2}})
}

func TestOfWrongBytes(t *testing.T) {
	for _, s := range maps() {
		need := (s.W*s.H + 7) / 8
		for _, n := range []int{0, 1, need - 1, need + 1, 2 * need, s.W * s.H} {
			if n == need {
				continue
			}
			if m, e := mask.Of(s, make([]byte, n)); m != nil || e != api.ErrForm {
				t.Errorf("Of(%v) of %d bytes = %v, %v", s, n, m, e)
			}
		}
		if m, e := mask.Of(s, nil); m != nil || e != api.ErrForm {
			t.Errorf("Of(%v, nil) = %v, %v", s, m, e)
		}
		for i := max(0, need*8-24); i < need*8; i++ { // the bits of the last bytes, cells' and others
			b := make([]byte, need)
			b[i/8] = 1 << (i % 8)
			fault := api.OK
			if i >= s.W*s.H {
				fault = api.ErrForm
			}
			if m, e := mask.Of(s, b); (m != nil) != (fault == api.OK) || e != fault {
				t.Fatalf("Of(%v) of bit %d = %v, %v", s, i, m, e)
			}
		}
	}
}

func TestOfWrongSizes(t *testing.T) {
	for _, s := range wrong() {
		// The size is held against first, whatever the bytes are.
		for _, b := range [][]byte{nil, {}, {0}, {1}, {255, 255}, make([]byte, 33)} {
			if m, e := mask.Of(s, b); m != nil || e != api.ErrRange {
				t.Errorf("Of(%v, %v) = %v, %v", s, b, m, e)
			}
		}
	}
}

func TestNilSet(t *testing.T) {
	var none *mask.Mask
	m := with(t, api.Size{W: 2, H: 2}, api.Cell{X: 1})
	if none.Size() != (api.Size{}) || none.Count() != 0 || none.Has(api.Cell{}) || none.Clone() != nil || none.Bytes() != nil {
		t.Error("a nil set has something")
	}
	for _, c := range []api.Cell{{}, {X: -1}, {X: math.MaxInt}} {
		if e := none.Set(c, true); e != api.ErrNil {
			t.Errorf("Set(%v): %v", c, e)
		}
	}
	for _, n := range []*mask.Mask{nil, m} {
		if k, e := none.Add(n); k != 0 || e != api.ErrNil {
			t.Error(k, e)
		}
		if k, e := none.Keep(n); k != 0 || e != api.ErrNil {
			t.Error(k, e)
		}
	}
	if !none.Same(nil) || none.Same(m) || m.Same(nil) {
		t.Error("a nil set is the same as another one, or not as a nil one")
	}
	if cells := none.Cells(); cells != nil {
		for c := range cells {
			t.Errorf("a nil set has %v", c)
		}
	}
	holds(t, m, []api.Cell{{X: 1}})
}

// P2.4

func TestAddedInWhateverOrder(t *testing.T) {
	for _, s := range []api.Size{{W: 3, H: 3}, {W: 10, H: 7}, {W: 255, H: 3}} {
		rules := patterns()
		for at := range rules {
			a := with(t, s, picked(s, rules[at])...)
			b := with(t, s, picked(s, rules[(at+3)%len(rules)])...)
			c := with(t, s, picked(s, rules[(at+5)%len(rules)])...)
			var ends []*mask.Mask
			for _, order := range [][]*mask.Mask{{a, b, c}, {a, c, b}, {b, a, c}, {b, c, a}, {c, a, b}, {c, b, a}, {c, c, b, a, b}} {
				m := empty(t, s)
				for _, n := range order {
					m.Add(n)
				}
				ends = append(ends, m)
			}
			bc := b.Clone()
			bc.Add(c)
			m := a.Clone()
			m.Add(bc)
			for i, end := range ends {
				if !end.Same(m) {
					t.Errorf("of %v, %d: order %d comes to something else", s, at, i)
				}
			}
		}
	}
}

func TestKeptIsInBoth(t *testing.T) {
	s := api.Size{W: 10, H: 7}
	for _, one := range patterns() {
		for _, two := range patterns() {
			a, b := with(t, s, picked(s, one)...), with(t, s, picked(s, two)...)
			m, n := a.Clone(), b.Clone()
			m.Keep(b)
			n.Keep(a)
			if !m.Same(n) {
				t.Error("what is kept hangs on the order")
			}
			for c := range m.Cells() {
				if !a.Has(c) || !b.Has(c) {
					t.Errorf("%v is not in both", c)
				}
			}
			for c := range a.Cells() {
				if b.Has(c) && !m.Has(c) {
					t.Errorf("%v is in both, but was not kept", c)
				}
			}
		}
	}
}

func TestAsManyAsAreTold(t *testing.T) {
	for _, s := range maps() {
		for _, rule := range patterns() {
			m := with(t, s, picked(s, rule)...)
			n := 0
			for c := range m.Cells() {
				if !m.Has(c) {
					t.Fatalf("of %v: %v is told, but not in it", s, c)
				}
				n++
			}
			if n != m.Count() {
				t.Errorf("of %v: %d are told, Count is %d", s, n, m.Count())
			}
		}
	}
}

func TestBytesComeBack(t *testing.T) {
	for _, s := range maps() {
		for _, rule := range patterns() {
			m := with(t, s, picked(s, rule)...)
			n, e := mask.Of(s, m.Bytes())
			if e != api.OK || !n.Same(m) || !slices.Equal(n.Bytes(), m.Bytes()) {
				t.Errorf("of %v: what comes back is not the same: %v", s, e)
			}
		}
	}
}
