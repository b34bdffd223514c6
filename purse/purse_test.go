package purse_test

import (
	"math"
	"testing"

	"gloaming/api"
	"gloaming/purse"
)

// rand is numbers without a plain rule, others by each seed.
type rand uint64

// below is the next one, from 0 to n less 1.
func (r *rand) below(n int) int {
	*r = *r*6364136223846793005 + 1442695040888963407
	return int(uint64(*r) >> 33 % uint64(n))
}

// purse is a right one.
func (r *rand) purse() purse.Purse {
	most := r.below(1 + r.below(api.MaxBudget+1))
	return purse.Purse{Left: r.below(most + 1), Most: most, Refill: r.below(1 + r.below(api.MaxBudget+1))}
}

// small are all right purses whose parts are small.
func small() []purse.Purse {
	var l []purse.Purse
	for most := range 8 {
		for left := range most + 1 {
			for refill := range 10 {
				l = append(l, purse.Purse{Left: left, Most: most, Refill: refill})
			}
		}
	}
	return l
}

// great are right purses whose parts are at the ends of their ranges, or near them.
func great() []purse.Purse {
	var l []purse.Purse
	for _, most := range []int{0, 1, 2, 1000, 1<<20 - 1, 1 << 20} {
		for _, left := range []int{0, 1, most / 2, most - 1, most} {
			for _, refill := range []int{0, 1, 2, 999, 1<<19 + 1, 1<<20 - 1, 1 << 20} {
				if left >= 0 && left <= most {
					l = append(l, purse.Purse{Left: left, Most: most, Refill: refill})
				}
			}
		}
	}
	return l
}

// wrong are purses that are not right, by one part or by more.
func wrong() []purse.Purse {
	return []purse.Purse{
		{Left: -1}, {Left: 1}, {Left: -1, Most: 5, Refill: 1}, {Left: 6, Most: 5, Refill: 1},
		{Left: math.MinInt, Most: 5}, {Left: math.MaxInt, Most: 5}, {Left: 1<<20 + 1, Most: 1 << 20},
		{Most: -1}, {Left: -1, Most: -1}, {Left: -2, Most: -1}, {Most: math.MinInt}, {Left: math.MinInt, Most: math.MinInt, Refill: 1},
		{Most: 1<<20 + 1}, {Left: 1<<20 + 1, Most: 1<<20 + 1}, {Left: 3, Most: math.MaxInt}, {Most: 1 << 32}, {Left: 1, Most: 1<<32 + 1},
		{Refill: -1}, {Left: 2, Most: 3, Refill: -1}, {Left: 2, Most: 3, Refill: 1<<20 + 1}, {Refill: math.MinInt}, {Refill: math.MaxInt},
		{Left: 3, Most: 3, Refill: 1 << 32}, {Left: 3, Most: 3, Refill: -1 << 32}, {Left: -1, Most: -1, Refill: -1},
		{Left: math.MaxInt, Most: math.MaxInt, Refill: math.MaxInt}, {Left: math.MaxInt, Most: math.MinInt, Refill: math.MaxInt},
	}
}

// minus are numbers below 0.
func minus() []int {
	return []int{-1, -2, -1 << 20, -1 << 32, -1<<32 + 1, math.MinInt + 1, math.MinInt}
}

// later is a plain reading of the chapter: a purse behind so many ticks, one by one.
func later(p purse.Purse, ticks int) purse.Purse {
	for range ticks {
		p.Left = min(p.Left+p.Refill, p.Most)
	}
	return p
}

// lasts fails, if a purse behind some ticks is not that one.
func lasts(t *testing.T, p purse.Purse, ticks int, want purse.Purse) {
	t.Helper()
	if q, e := p.After(ticks); q != want || e != api.OK {
		t.Fatalf("%v: After(%d) = %v, %v, not %v", p, ticks, q, e, want)
	}
}

// takes fails, if another number of ticks is told till n may be spent.
func takes(t *testing.T, p purse.Purse, n, ticks int, is bool) {
	t.Helper()
	if k, i := p.Ticks(n); k != ticks || i != is {
		t.Fatalf("%v: Ticks(%d) = %d, %v, not %d, %v", p, n, k, i, ticks, is)
	}
}

// P17.1

func TestNew(t *testing.T) {
	sizes := []int{0, 1, 2, 3, 100, 65535, 65536, 1<<20 - 1, 1 << 20}
	for _, most := range sizes {
		for _, refill := range sizes {
			if p, e := purse.New(most, refill); p != (purse.Purse{Left: most, Most: most, Refill: refill}) || e != api.OK {
				t.Errorf("New(%d, %d) = %v, %v", most, refill, p, e)
			}
		}
	}
}

func TestNewOfWrongNumbers(t *testing.T) {
	off := append(minus(), 1<<20+1, 1<<20+2, 1<<21, 1<<32, 1<<32+1, math.MaxInt-1, math.MaxInt)
	for _, n := range off {
		for _, c := range [][2]int{{n, 0}, {n, 1}, {n, 1 << 20}, {0, n}, {1, n}, {1 << 20, n}, {n, n}, {n, -1}, {-1, n}} {
			if p, e := purse.New(c[0], c[1]); p != (purse.Purse{}) || e != api.ErrRange {
				t.Errorf("New(%d, %d) = %v, %v", c[0], c[1], p, e)
			}
		}
	}
}

// P17.2

func TestTheExample(t *testing.T) {
	p, e := purse.New(10, 4)
	if e != api.OK {
		t.Fatal(e)
	}
	p, e = p.Spend(9)
	if p != (purse.Purse{Left: 1, Most: 10, Refill: 4}) || e != api.OK {
		t.Fatal(p, e)
	}
	takes(t, p, 9, 2, true)
	lasts(t, p, 2, purse.Purse{Left: 9, Most: 10, Refill: 4})
	lasts(t, p, 100, purse.Purse{Left: 10, Most: 10, Refill: 4})
}

func TestTick(t *testing.T) {
	for _, p := range append(small(), great()...) {
		if q, e := p.Tick(); q != later(p, 1) || e != api.OK {
			t.Fatalf("%v: Tick() = %v, %v", p, q, e)
		}
	}
}

func TestAfter(t *testing.T) {
	for _, p := range small() {
		for ticks := range 12 {
			lasts(t, p, ticks, later(p, ticks))
		}
	}
	for _, p := range great() {
		for _, ticks := range []int{0, 1, 2, 3, 499, 500, 501, 1000} {
			lasts(t, p, ticks, later(p, ticks))
		}
	}
}

func TestAfterVeryLong(t *testing.T) {
	for _, p := range append(small(), great()...) {
		want := p
		if p.Refill > 0 {
			want.Left = p.Most
		}
		// Refill times some of these is beyond all numbers, or comes round to a small one.
		for _, ticks := range []int{1 << 20, 1<<20 + 1, 1 << 31, 1 << 32, 1<<32 + 1, 1 << 43, 1 << 44, 1<<44 + 1, 1 << 62, math.MaxInt / 3, math.MaxInt / 2, math.MaxInt} {
			lasts(t, p, ticks, want)
		}
	}
}

func TestAfterAsItGetsFull(t *testing.T) {
	p := purse.Purse{Left: 0, Most: 1 << 20, Refill: 1}
	for _, ticks := range []int{0, 1, 1<<20 - 1, 1 << 20, 1<<20 + 1} {
		lasts(t, p, ticks, purse.Purse{Left: min(ticks, 1<<20), Most: 1 << 20, Refill: 1})
	}
	p = purse.Purse{Left: 1, Most: 1 << 20, Refill: 3}
	for _, ticks := range []int{349524, 349525, 349526} { // 3 times the second one comes to the last but one cell
		lasts(t, p, ticks, purse.Purse{Left: min(1+3*ticks, 1<<20), Most: 1 << 20, Refill: 3})
	}
}

func TestSpend(t *testing.T) {
	for _, p := range append(small(), great()...) {
		for _, n := range []int{0, 1, 2, 3, p.Left / 2, p.Left - 1, p.Left, p.Left + 1, p.Most, p.Most + 1, 1 << 20, 1<<20 + 1, 1 << 32, math.MaxInt - 1, math.MaxInt} {
			want, e := purse.Purse{Left: p.Left - n, Most: p.Most, Refill: p.Refill}, api.OK
			switch {
			case n < 0:
				want, e = purse.Purse{}, api.ErrRange
			case n > p.Left:
				want, e = purse.Purse{}, api.ErrBudget
			}
			if q, got := p.Spend(n); q != want || got != e {
				t.Fatalf("%v: Spend(%d) = %v, %v, not %v, %v", p, n, q, got, want, e)
			}
		}
	}
}

func TestOfNumbersBelowNought(t *testing.T) {
	for _, p := range append(small(), great()...) {
		for _, n := range minus() {
			if q, e := p.Spend(n); q != (purse.Purse{}) || e != api.ErrRange {
				t.Fatalf("%v: Spend(%d) = %v, %v", p, n, q, e)
			}
			if q, e := p.After(n); q != (purse.Purse{}) || e != api.ErrRange {
				t.Fatalf("%v: After(%d) = %v, %v", p, n, q, e)
			}
			takes(t, p, n, 0, false)
		}
	}
}

func TestWrongPurses(t *testing.T) {
	// That the purse is not right is told first, whatever else is wrong.
	for _, p := range wrong() {
		if q, e := p.Tick(); q != (purse.Purse{}) || e != api.ErrArg {
			t.Errorf("%v: Tick() = %v, %v", p, q, e)
		}
		for _, n := range append(minus(), 0, 1, 2, 5, 7, 1<<20, 1<<20+1, math.MaxInt) {
			if q, e := p.Spend(n); q != (purse.Purse{}) || e != api.ErrArg {
				t.Errorf("%v: Spend(%d) = %v, %v", p, n, q, e)
			}
			if q, e := p.After(n); q != (purse.Purse{}) || e != api.ErrArg {
				t.Errorf("%v: After(%d) = %v, %v", p, n, q, e)
			}
			if k, is := p.Ticks(n); k != 0 || is {
				t.Errorf("%v: Ticks(%d) = %d, %v", p, n, k, is)
			}
		}
	}
}

func TestAPurseStaysAsItWas(t *testing.T) {
	p := purse.Purse{Left: 3, Most: 9, Refill: 2}
	p.Tick()
	p.After(2)
	p.Spend(2)
	p.Ticks(8)
	if p != (purse.Purse{Left: 3, Most: 9, Refill: 2}) {
		t.Error(p)
	}
}

// P17.3

func TestTicks(t *testing.T) {
	for _, p := range small() {
		for n := range p.Most + 3 {
			want, is := 0, false
			for k := 0; k < 12 && !is; k++ { // 7 at most are missing
				if later(p, k).Left >= n {
					want, is = k, true
				}
			}
			takes(t, p, n, want, is)
		}
	}
}

func TestTicksIsTheLeast(t *testing.T) {
	for _, p := range great() {
		for _, n := range []int{0, 1, p.Left, p.Left + 1, p.Left + p.Refill, p.Left + p.Refill + 1, p.Most - 1, p.Most} {
			k, is := p.Ticks(n)
			if want := n >= 0 && n <= p.Most && (n <= p.Left || p.Refill > 0); is != want || !is && k != 0 {
				t.Fatalf("%v: Ticks(%d) = %d, %v", p, n, k, is)
			}
			if !is {
				continue
			}
			if later(p, k).Left < n || k > 0 && later(p, k-1).Left >= n {
				t.Fatalf("%v: Ticks(%d) = %d", p, n, k)
			}
		}
	}
}

func TestTicksOfWhatIsNeverSo(t *testing.T) {
	for _, p := range append(small(), great()...) {
		for _, n := range []int{p.Most + 1, p.Most + 2, 1<<20 + 1, 1 << 32, math.MaxInt - 1, math.MaxInt} {
			takes(t, p, n, 0, false)
		}
		p.Refill = 0
		takes(t, p, p.Left, 0, true)
		for n := p.Left + 1; n <= min(p.Left+3, p.Most); n++ {
			takes(t, p, n, 0, false)
		}
		takes(t, p, p.Most, 0, p.Left == p.Most)
	}
}

func TestTicksAtTheEnds(t *testing.T) {
	takes(t, purse.Purse{Most: 1 << 20, Refill: 1}, 1<<20, 1<<20, true)
	takes(t, purse.Purse{Most: 1 << 20, Refill: 1}, 1<<20-1, 1<<20-1, true)
	takes(t, purse.Purse{Most: 1 << 20, Refill: 1 << 20}, 1<<20, 1, true)
	takes(t, purse.Purse{Most: 1 << 20, Refill: 1<<20 - 1}, 1<<20, 2, true)
	takes(t, purse.Purse{Left: 1, Most: 1 << 20, Refill: 3}, 1<<20, 349525, true)
	takes(t, purse.Purse{}, 0, 0, true)
	takes(t, purse.Purse{}, 1, 0, false)
	takes(t, purse.Purse{Refill: 1 << 20}, 1, 0, false)
}

// P17.4

func TestNoMoreIsSpentThanComesIn(t *testing.T) {
	for seed := range 300 {
		r := rand(seed)
		p := r.purse()
		first, spent, ticks := p, 0, 0
		for range 200 {
			if r.below(3) == 0 {
				p, _ = p.Tick()
				ticks++
			} else {
				n := r.below(p.Most + 2)
				if r.below(2) == 0 {
					n = p.Left // as much as there is
				}
				if q, e := p.Spend(n); e == api.OK {
					p, spent = q, spent+n
					if n > first.Most {
						t.Fatalf("%v: %d are spent at once", first, n)
					}
				}
			}
			if spent > first.Left+first.Refill*ticks {
				t.Fatalf("%v: %d are spent in %d ticks", first, spent, ticks)
			}
			if p.Left < 0 || p.Left > p.Most || p.Most != first.Most || p.Refill != first.Refill {
				t.Fatalf("%v came to %v", first, p)
			}
		}
	}
}

func TestAllThatComesInMayBeSpent(t *testing.T) {
	// As nothing runs over, it is just Left, and Refill times the ticks.
	for _, p := range append(small(), great()...) {
		if p.Refill > p.Most {
			continue
		}
		first, spent := p, 0
		for ticks := range 50 {
			q, e := p.Spend(p.Left)
			if e != api.OK || q.Left != 0 {
				t.Fatal(p, q, e)
			}
			spent += p.Left
			if spent != first.Left+first.Refill*ticks {
				t.Fatalf("%v: %d are spent in %d ticks", first, spent, ticks)
			}
			p, _ = q.Tick()
		}
	}
}

func TestTicksOneByOne(t *testing.T) {
	for seed := range 300 {
		r := rand(1000 + seed)
		p := r.purse()
		if seed%2 == 0 {
			p.Refill %= 50
		}
		one := p
		for k := range 100 {
			lasts(t, p, k, one)
			some, _ := p.After(k / 3) // and so do ticks in two parts
			lasts(t, some, k-k/3, one)
			var e api.Errno
			if one, e = one.Tick(); e != api.OK {
				t.Fatal(one, e)
			}
		}
	}
}

func TestWhatMayBeSpentMayBeSpentLater(t *testing.T) {
	for seed := range 300 {
		r := rand(2000 + seed)
		p := r.purse()
		for range 20 {
			n := r.below(p.Most + 1)
			k, is := p.Ticks(n)
			if !is {
				if q, _ := p.After(math.MaxInt); q.Left >= n {
					t.Fatalf("%v: Ticks(%d) tells that it is never so", p, n)
				}
				continue
			}
			for _, ticks := range []int{k, k + 1, k + 1 + r.below(1000), math.MaxInt} {
				q, _ := p.After(ticks)
				if s, e := q.Spend(n); e != api.OK || s.Left != q.Left-n {
					t.Fatalf("%v: Ticks(%d) = %d, but behind %d ticks Spend tells %v", p, n, k, ticks, e)
				}
			}
			if k > 0 {
				q, _ := p.After(k - 1)
				if s, e := q.Spend(n); e != api.ErrBudget || s != (purse.Purse{}) {
					t.Fatalf("%v: Ticks(%d) = %d, but a tick ahead Spend tells %v", p, n, k, e)
				}
			}
		}
	}
}

func TestTheSameCallsTellTheSame(t *testing.T) {
	row := func() []purse.Purse {
		r := rand(7)
		p := r.purse()
		var l []purse.Purse
		for range 200 {
			p, _ = p.After(r.below(3))
			if q, e := p.Spend(r.below(p.Most + 1)); e == api.OK {
				p = q
			}
			l = append(l, p)
		}
		return l
	}
	a, b := row(), row()
	for i := range a {
		if a[i] != b[i] {
			t.Fatal(i, a[i], b[i])
		}
	}
}
