package sat_test

import (
	"math"
	"math/big"
	"slices"
	"testing"

	"gloaming/api"
	"gloaming/sat"
)

const inf = uint64(sat.Inf)

// costs are such as sums of them stay below Inf, come to it, and go beyond it.
func costs() []uint64 {
	return []uint64{0, 1, 2, 3, 7, 255, 65535, 1<<32 - 1, 1 << 32, 1<<32 + 1, 1<<62 - 1, 1 << 62, 3 << 62, 1<<63 - 1, 1 << 63, 1<<63 + 1, inf - 3, inf - 2, inf - 1, inf}
}

// counts are how often a cost may be taken, and how often it may not.
func counts() []int {
	return []int{math.MinInt, math.MinInt + 1, -65536, -2, -1, 0, 1, 2, 3, 4, 5, 7, 255, 65536, 1<<31 - 1, 1 << 31, 1<<32 - 1, 1 << 32, 1<<32 + 1, 1 << 62, math.MaxInt - 1, math.MaxInt}
}

// large is a cost as a number without bounds.
func large(cost uint64) *big.Int {
	return new(big.Int).SetUint64(cost)
}

// bounded is a number as a cost: Inf, if it is above Inf.
func bounded(n *big.Int) uint64 {
	if n.Cmp(large(inf)) > 0 {
		return inf
	}
	return n.Uint64()
}

// together is what costs are together, told by numbers without bounds.
func together(l ...uint64) uint64 {
	n := new(big.Int)
	for _, cost := range l {
		n.Add(n, large(cost))
	}
	return bounded(n)
}

// mixed is a row of so many costs of all kinds; other ones by each seed.
func mixed(n, seed int) []uint64 {
	all := costs()
	l := make([]uint64, n)
	for i := range l {
		l[i] = all[(i*i*7+i*(seed+3)+seed*seed*5+seed)%len(all)]
	}
	return l
}

// table is one of so many rows, of as many costs each; another one by each seed.
func table(rows, wide, seed int) [][]uint64 {
	t := make([][]uint64, rows)
	for i := range t {
		t[i] = mixed(wide, seed+2*i)
	}
	return t
}

// rowsCopied is a table of its own, the same.
func rowsCopied(t [][]uint64) [][]uint64 {
	var l [][]uint64
	for _, row := range t {
		l = append(l, slices.Clone(row))
	}
	return l
}

// sameRows tells whether two tables have the same costs.
func sameRows(a, b [][]uint64) bool {
	return slices.EqualFunc(a, b, slices.Equal[[]uint64])
}

// joined is Join's row; it fails, if there is none.
func joined(t *testing.T, a, b []uint64) []uint64 {
	t.Helper()
	l, e := sat.Join(a, b)
	if e != api.OK || len(l) != len(a) {
		t.Fatalf("Join(%v, %v) = %v, %v", a, b, l, e)
	}
	return l
}

// by is Via's row; it fails, if there is none.
func by(t *testing.T, a []uint64, rows [][]uint64) []uint64 {
	t.Helper()
	l, e := sat.Via(a, rows)
	if e != api.OK || len(rows) > 0 && len(l) != len(rows[0]) {
		t.Fatalf("Via(%v, %v) = %v, %v", a, rows, l, e)
	}
	return l
}

// P3.1

func TestInf(t *testing.T) {
	if inf != math.MaxUint64 {
		t.Error(inf)
	}
}

func TestAdd(t *testing.T) {
	for i, c := range []struct{ a, b, want uint64 }{
		{0, 0, 0}, {1, 2, 3}, {65535, 1, 65536}, {0, inf, inf}, {inf, 0, inf}, {inf, 1, inf}, {inf, inf, inf},
		{inf - 1, 0, inf - 1}, {inf - 1, 1, inf}, {inf - 1, 2, inf}, {inf - 2, 1, inf - 1}, {inf - 1, inf - 1, inf},
		{1 << 63, 1<<63 - 1, inf}, {1 << 63, 1 << 63, inf}, {1 << 63, 1<<63 - 2, inf - 1}, {1 << 32, 1 << 32, 1 << 33},
	} {
		if got := sat.Add(c.a, c.b); got != c.want {
			t.Errorf("%d: Add(%d, %d) = %d, not %d", i, c.a, c.b, got, c.want)
		}
	}
	for _, a := range costs() {
		for _, b := range costs() {
			if got := sat.Add(a, b); got != together(a, b) {
				t.Errorf("Add(%d, %d) = %d, not %d", a, b, got, together(a, b))
			}
		}
	}
}

func TestSum(t *testing.T) {
	for i, c := range []struct {
		l    []uint64
		want uint64
	}{
		{nil, 0}, {[]uint64{}, 0}, {[]uint64{0}, 0}, {[]uint64{5}, 5}, {[]uint64{inf}, inf}, {[]uint64{1, 2, 3}, 6},
		{[]uint64{1, inf, 3}, inf}, {[]uint64{inf, 0, 0}, inf}, {[]uint64{0, 0, inf}, inf}, {[]uint64{inf, inf, inf}, inf},
		{[]uint64{1 << 63, 1 << 62, 1 << 62}, inf}, {[]uint64{1 << 63, 1 << 63, 5}, inf}, {[]uint64{1 << 62, 1 << 62, 1 << 62}, 3 << 62},
		{[]uint64{inf - 3, 1, 1}, inf - 1}, {[]uint64{inf - 3, 1, 1, 1}, inf}, {[]uint64{inf - 3, 1, 1, 1, 1}, inf},
		{[]uint64{inf - 1, inf - 1, inf - 1}, inf},
	} {
		if got := sat.Sum(c.l...); got != c.want {
			t.Errorf("%d: Sum of %v = %d, not %d", i, c.l, got, c.want)
		}
	}
	if got := sat.Sum(); got != 0 {
		t.Error(got)
	}
	if got := sat.Sum(1, 2, 3); got != 6 {
		t.Error(got)
	}
}

func TestSumOfThree(t *testing.T) {
	for _, a := range costs() {
		for _, b := range costs() {
			for _, c := range costs() {
				if got := sat.Sum(a, b, c); got != together(a, b, c) {
					t.Fatalf("Sum(%d, %d, %d) = %d, not %d", a, b, c, got, together(a, b, c))
				}
			}
		}
	}
}

func TestSumOfMany(t *testing.T) {
	l := make([]uint64, 65536)
	for i := range l {
		l[i] = 65535
	}
	if got := sat.Sum(l...); got != 65535*65536 {
		t.Error(got)
	}
	for i := range l {
		l[i] = 1 << 48
	}
	if got := sat.Sum(l[1:]...); got != 65535<<48 {
		t.Error(got)
	}
	if got := sat.Sum(l...); got != inf {
		t.Error(got)
	}
}

func TestTimes(t *testing.T) {
	for i, c := range []struct {
		a    uint64
		n    int
		want uint64
	}{
		{5, 3, 15}, {5, 1, 5}, {0, 7, 0}, {0, math.MaxInt, 0}, {1, math.MaxInt, math.MaxInt}, {2, math.MaxInt, inf - 1}, {3, math.MaxInt, inf},
		{5, 0, 0}, {5, -1, 0}, {5, -3, 0}, {5, math.MinInt, 0}, {inf, 0, 0}, {inf, -1, 0}, {inf, math.MinInt, 0}, {0, 0, 0}, {1 << 63, -2, 0},
		{inf, 1, inf}, {inf, 2, inf}, {inf, math.MaxInt, inf}, {inf - 1, 1, inf - 1}, {inf - 1, 2, inf},
		{1 << 63, 1, 1 << 63}, {1 << 63, 2, inf}, {1 << 62, 3, 3 << 62}, {1 << 62, 4, inf}, {1 << 32, 1 << 32, inf}, {1<<32 - 1, 1<<32 + 1, inf}, {1 << 32, 1<<32 - 1, inf - 1<<32 + 1},
		{inf / 3, 3, inf}, {inf/3 - 1, 3, inf - 3}, {inf/3 + 1, 3, inf}, {inf / 5, 5, inf},
	} {
		if got := sat.Times(c.a, c.n); got != c.want {
			t.Errorf("%d: Times(%d, %d) = %d, not %d", i, c.a, c.n, got, c.want)
		}
	}
	for _, a := range costs() {
		for _, n := range counts() {
			want := bounded(new(big.Int).Mul(large(a), big.NewInt(int64(max(n, 0)))))
			if got := sat.Times(a, n); got != want {
				t.Errorf("Times(%d, %d) = %d, not %d", a, n, got, want)
			}
		}
	}
}

func TestTimesIsASum(t *testing.T) {
	for _, a := range costs() {
		var l []uint64
		for n := range 9 {
			if got := sat.Times(a, n); got != sat.Sum(l...) {
				t.Errorf("Times(%d, %d) = %d, not %d", a, n, got, sat.Sum(l...))
			}
			l = append(l, a)
		}
	}
}

// P3.2

func TestLeast(t *testing.T) {
	for i, c := range []struct {
		l     []uint64
		place int
		is    bool
	}{
		{nil, 0, false}, {[]uint64{}, 0, false}, {[]uint64{inf}, 0, false}, {[]uint64{inf, inf, inf}, 0, false},
		{[]uint64{0}, 0, true}, {[]uint64{inf - 1}, 0, true}, {[]uint64{inf, inf - 1}, 1, true}, {[]uint64{inf - 1, inf}, 0, true},
		{[]uint64{3, 1, 1}, 1, true}, {[]uint64{0, 0}, 0, true}, {[]uint64{1, 0, 0}, 1, true}, {[]uint64{3, 2, 1, 0}, 3, true}, {[]uint64{0, 1, 2, 3}, 0, true},
		{[]uint64{inf, inf, 5, inf}, 2, true}, {[]uint64{inf, 5, 4, 5, 4}, 2, true}, {[]uint64{1 << 63, 1<<63 - 1}, 1, true}, {[]uint64{1 << 32, 1}, 1, true},
		{[]uint64{inf - 1, inf - 1, inf}, 0, true}, {[]uint64{inf, inf, 0}, 2, true},
	} {
		if place, is := sat.Least(c.l); place != c.place || is != c.is {
			t.Errorf("%d: Least(%v) = %d, %v", i, c.l, place, is)
		}
	}
}

func TestLeastOfRows(t *testing.T) {
	for n := range 40 {
		for seed := range 40 {
			l := mixed(n, seed)
			place, is := sat.Least(l)
			if some := slices.ContainsFunc(l, func(cost uint64) bool { return cost < inf }); is != some {
				t.Fatalf("Least(%v): %v", l, is)
			}
			if !is && place != 0 || is && (l[place] != slices.Min(l) || slices.Index(l, l[place]) != place) {
				t.Fatalf("Least(%v) = %d", l, place)
			}
		}
	}
}

func TestLeastOfMany(t *testing.T) {
	l := slices.Repeat([]uint64{inf}, 65536)
	if place, is := sat.Least(l); place != 0 || is {
		t.Error(place, is)
	}
	for _, at := range []int{65535, 40000, 256, 1, 0} {
		l[at] = 9
		if place, is := sat.Least(l); place != at || !is {
			t.Error(at, place, is)
		}
	}
}

// P3.3

func TestJoin(t *testing.T) {
	for i, c := range []struct{ a, b, want []uint64 }{
		{nil, nil, nil}, {[]uint64{}, nil, nil}, {nil, []uint64{}, nil},
		{[]uint64{1}, []uint64{2}, []uint64{1}}, {[]uint64{2}, []uint64{1}, []uint64{1}}, {[]uint64{0}, []uint64{inf}, []uint64{0}},
		{[]uint64{1, inf, 3}, []uint64{2, 7, 3}, []uint64{1, 7, 3}}, {[]uint64{inf, inf}, []uint64{inf, inf - 1}, []uint64{inf, inf - 1}},
		{[]uint64{1 << 63, 1<<63 - 1}, []uint64{1<<63 - 1, 1 << 63}, []uint64{1<<63 - 1, 1<<63 - 1}},
	} {
		if l, e := sat.Join(c.a, c.b); !slices.Equal(l, c.want) || e != api.OK {
			t.Errorf("%d: Join(%v, %v) = %v, %v", i, c.a, c.b, l, e)
		}
	}
	for n := range 20 {
		for seed := range 20 {
			a, b := mixed(n, seed), mixed(n, 3*seed+1)
			l := joined(t, a, b)
			for i := range a {
				if want := min(a[i], b[i]); l[i] != want {
					t.Fatalf("Join(%v, %v) = %v", a, b, l)
				}
			}
		}
	}
}

func TestJoinOfNotAsMany(t *testing.T) {
	for n := range 6 {
		for k := range 6 {
			if n == k {
				continue
			}
			if l, e := sat.Join(mixed(n, 1), mixed(k, 1)); len(l) != 0 || e != api.ErrLong {
				t.Errorf("Join of %d and %d = %v, %v", n, k, l, e)
			}
		}
	}
	if l, e := sat.Join(nil, []uint64{1}); len(l) != 0 || e != api.ErrLong {
		t.Error(l, e)
	}
	if l, e := sat.Join([]uint64{inf}, nil); len(l) != 0 || e != api.ErrLong {
		t.Error(l, e)
	}
}

func TestJoinSharesNothing(t *testing.T) {
	long, other := []uint64{1, 9, 3, 77, 78}, []uint64{5, 2, 4, 88, 89}
	l := joined(t, long[:3], other[:3])
	for i := range l[:cap(l)] {
		l[:cap(l)][i] = 1000
	}
	if !slices.Equal(long, []uint64{1, 9, 3, 77, 78}) || !slices.Equal(other, []uint64{5, 2, 4, 88, 89}) {
		t.Error(long, other)
	}
	l, next := joined(t, long[:3], other[:3]), joined(t, long[:3], other[:3])
	long[0], other[1], next[2] = 0, 0, 0
	if !slices.Equal(l, []uint64{1, 2, 3}) {
		t.Error(l)
	}
	sat.Join(long, other[:3])
	if !slices.Equal(long, []uint64{0, 9, 3, 77, 78}) || !slices.Equal(other, []uint64{5, 0, 4, 88, 89}) {
		t.Error(long, other)
	}
}

func TestVia(t *testing.T) {
	for i, c := range []struct {
		a    []uint64
		t    [][]uint64
		want []uint64
	}{
		{nil, nil, nil}, {[]uint64{}, [][]uint64{}, nil}, {[]uint64{3}, [][]uint64{{}}, nil}, {[]uint64{3, 4}, [][]uint64{nil, {}}, nil},
		{[]uint64{1, 5}, [][]uint64{{7, inf}, {2, 4}}, []uint64{7, 9}},
		{[]uint64{3}, [][]uint64{{4}}, []uint64{7}}, {[]uint64{3}, [][]uint64{{0, 1, inf}}, []uint64{3, 4, inf}},
		{[]uint64{0, 0}, [][]uint64{{4, 2}, {3, 9}}, []uint64{3, 2}}, {[]uint64{2, 1, 0}, [][]uint64{{5}, {5}, {5}}, []uint64{5}},
		{[]uint64{inf}, [][]uint64{{0, 1}}, []uint64{inf, inf}}, {[]uint64{inf, 1}, [][]uint64{{0, 0}, {inf, 3}}, []uint64{inf, 4}},
		{[]uint64{inf - 1, 1 << 63}, [][]uint64{{1, 0}, {1 << 63, 1<<63 - 2}}, []uint64{inf, inf - 1}},
		{[]uint64{inf - 1}, [][]uint64{{2, 1, 0}}, []uint64{inf, inf, inf - 1}}, {[]uint64{inf, inf}, [][]uint64{{inf}, {0}}, []uint64{inf}},
	} {
		if l, e := sat.Via(c.a, c.t); !slices.Equal(l, c.want) || e != api.OK {
			t.Errorf("%d: Via(%v, %v) = %v, %v", i, c.a, c.t, l, e)
		}
	}
}

func TestViaOfTables(t *testing.T) {
	for rows := 1; rows < 9; rows++ {
		for wide := range 9 {
			for seed := range 12 {
				a, rest := mixed(rows, seed+5), table(rows, wide, seed)
				l := by(t, a, rest)
				for place := range wide {
					var sums []uint64
					for i := range a {
						sums = append(sums, together(a[i], rest[i][place]))
					}
					if l[place] != slices.Min(sums) {
						t.Fatalf("Via(%v, %v) = %v", a, rest, l)
					}
				}
			}
		}
	}
}

func TestViaOfWrongTables(t *testing.T) {
	for i, c := range []struct {
		a []uint64
		t [][]uint64
	}{
		{[]uint64{1}, nil}, {nil, [][]uint64{{1}}}, {nil, [][]uint64{nil}}, {[]uint64{}, [][]uint64{{}, {}}}, {[]uint64{1, 2}, [][]uint64{{1, 2}}},
		{[]uint64{1}, [][]uint64{{1}, {2}}}, {[]uint64{1, 1}, [][]uint64{{1}, {1, 2}}}, {[]uint64{1, 1}, [][]uint64{{1, 2}, {1}}},
		{[]uint64{1, 1}, [][]uint64{nil, {1}}}, {[]uint64{1, 1}, [][]uint64{{1}, nil}}, {[]uint64{inf, inf, inf}, [][]uint64{{1, 2}, {1, 2}, {1}}},
		{[]uint64{1, 1, 1}, [][]uint64{{1}, {1, 2}, {1}}}, {[]uint64{1}, [][]uint64{{1}, {1, 2}}}, {nil, [][]uint64{{1}, {}}},
	} {
		if l, e := sat.Via(c.a, c.t); len(l) != 0 || e != api.ErrLong {
			t.Errorf("%d: Via(%v, %v) = %v, %v", i, c.a, c.t, l, e)
		}
	}
	for rows := 2; rows < 6; rows++ {
		for at := range rows {
			for _, wide := range []int{0, 2, 4} {
				rest := table(rows, 3, at)
				rest[at] = mixed(wide, at)
				if l, e := sat.Via(mixed(rows, 2), rest); len(l) != 0 || e != api.ErrLong {
					t.Errorf("Via by %v = %v, %v", rest, l, e)
				}
			}
		}
	}
}

func TestViaSharesNothing(t *testing.T) {
	long := []uint64{1, 5, 77}
	rest := [][]uint64{{7, inf, 78}, {2, 4, 79}, {80}}
	kept := rowsCopied(rest)
	cut := [][]uint64{rest[0][:2], rest[1][:2], rest[2]}
	l := by(t, long[:2], cut[:2])
	for i := range l[:cap(l)] {
		l[:cap(l)][i] = 1000
	}
	if !slices.Equal(long, []uint64{1, 5, 77}) || !sameRows(rest, kept) || len(cut[0]) != 2 || len(cut[2]) != 1 {
		t.Error(long, rest, cut)
	}
	l, next := by(t, long[:2], cut[:2]), by(t, long[:2], cut[:2])
	long[0], rest[1][1], next[0] = 0, 0, 0
	if !slices.Equal(l, []uint64{7, 9}) {
		t.Error(l)
	}
	// What costs as much as a row of the table is not that row.
	alone := []uint64{3, 4}
	l = by(t, []uint64{0}, [][]uint64{alone})
	l[0] = 9
	if !slices.Equal(alone, []uint64{3, 4}) {
		t.Error(alone)
	}
	// The same row twice, and the row that is joined to itself.
	if l := by(t, alone, [][]uint64{alone, alone}); !slices.Equal(l, []uint64{6, 7}) || !slices.Equal(alone, []uint64{3, 4}) {
		t.Error(l, alone)
	}
}

func TestSumsWriteNothing(t *testing.T) {
	long := []uint64{inf - 1, 5, 3, 77}
	sat.Sum(long[:3]...)
	sat.Least(long[:3])
	if !slices.Equal(long, []uint64{inf - 1, 5, 3, 77}) {
		t.Error(long)
	}
}

// P3.4

func TestAddGoesInWhateverOrder(t *testing.T) {
	for _, a := range costs() {
		for _, b := range costs() {
			sum := sat.Add(a, b)
			if sum != sat.Add(b, a) {
				t.Errorf("Add(%d, %d) is not Add the other way", a, b)
			}
			if sum < a || sum < b {
				t.Errorf("Add(%d, %d) = %d makes less", a, b, sum)
			}
			for _, c := range costs() {
				if sat.Add(sum, c) != sat.Add(a, sat.Add(b, c)) || sat.Add(sum, c) != sat.Sum(c, a, b) {
					t.Errorf("Add of %d, %d, %d hangs on the order", a, b, c)
				}
			}
		}
		if sat.Add(a, inf) != inf || sat.Add(inf, a) != inf || sat.Sum(a, inf, a) != inf || sat.Add(a, 0) != a {
			t.Errorf("Inf does not stay with %d, or nothing is something", a)
		}
	}
}

func TestJoinGoesInWhateverOrder(t *testing.T) {
	for n := range 24 {
		for seed := range 12 {
			a, b, c := mixed(n, seed), mixed(n, 2*seed+1), mixed(n, 5*seed+4)
			if !slices.Equal(joined(t, a, b), joined(t, b, a)) {
				t.Errorf("Join(%v, %v) is not Join the other way", a, b)
			}
			if !slices.Equal(joined(t, joined(t, a, b), c), joined(t, a, joined(t, b, c))) {
				t.Errorf("Join of %v, %v, %v hangs on the order", a, b, c)
			}
			if !slices.Equal(joined(t, a, a), a) {
				t.Errorf("Join of %v with itself is %v", a, joined(t, a, a))
			}
		}
	}
}

func TestViaByTwoTables(t *testing.T) {
	for rows := 1; rows < 7; rows++ {
		for between := 1; between < 7; between++ {
			for wide := range 6 {
				for seed := range 6 {
					a, first, second := mixed(rows, seed), table(rows, between, seed+1), table(between, wide, 3*seed+2)
					var both [][]uint64
					for _, row := range first {
						both = append(both, by(t, row, second))
					}
					if l, k := by(t, by(t, a, first), second), by(t, a, both); !slices.Equal(l, k) {
						t.Fatalf("Via(%v, %v) and then Via %v = %v, not %v", a, first, second, l, k)
					}
				}
			}
		}
	}
}
