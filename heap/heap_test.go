package heap_test

import (
	"math"
	"slices"
	"testing"

	"gloaming/api"
	"gloaming/heap"
)

// item is a thing and its key.
type item struct {
	id  int
	key heap.Key
}

// keys are in order, each less than all behind it: the four numbers at their edges, with ever less of them the same.
func keys() []heap.Key {
	var l []heap.Key
	great := []uint64{0, 1, 2, 1<<32 - 1, 1 << 32, 1<<63 - 1, 1 << 63, math.MaxUint64 - 1, math.MaxUint64}
	whole := []int{math.MinInt, math.MinInt + 1, -(1 << 32), -1, 0, 1, 1 << 32, math.MaxInt - 1, math.MaxInt}
	for _, f := range great {
		for _, h := range []uint64{0, 1, 1 << 63, math.MaxUint64} {
			for _, y := range []int{math.MinInt, -1, 0, math.MaxInt} {
				l = append(l, heap.Key{F: f, H: h, Y: y, X: -7}, heap.Key{F: f, H: h, Y: y, X: 7})
			}
		}
	}
	for _, y := range whole {
		for _, x := range whole {
			l = append(l, heap.Key{F: math.MaxUint64, H: math.MaxUint64, Y: y, X: x})
		}
	}
	slices.SortFunc(l, order)
	return slices.Compact(l)
}

// order is that of two keys, read from the chapter's words: below 0, 0, or above 0.
func order(a, b heap.Key) int {
	switch {
	case a == b:
		return 0
	case a.F < b.F,
		a.F == b.F && a.H < b.H,
		a.F == b.F && a.H == b.H && a.Y < b.Y,
		a.F == b.F && a.H == b.H && a.Y == b.Y && a.X < b.X:
		return -1
	}
	return 1
}

// numbers are such as a thing may be: any.
func numbers() []int {
	return []int{0, 1, -1, 2, -2, 65536, -65536, 1 << 32, -(1 << 32), 1<<32 + 1, math.MaxInt - 1, math.MaxInt, math.MinInt + 1, math.MinInt}
}

// rand is numbers without a plain rule, others by each seed.
type rand uint64

// below is the next one, from 0 to n less 1.
func (r *rand) below(n int) int {
	*r = *r*6364136223846793005 + 1442695040888963407
	return int(uint64(*r) >> 33 % uint64(n))
}

// key is one of few, so that often two are the same, or the same but for one number.
func (r *rand) key() heap.Key {
	return heap.Key{F: uint64(r.below(3)), H: uint64(r.below(3)), Y: r.below(3) - 1, X: r.below(3) - 1}
}

// mixed are so many things in some order, with numbers on both sides of 0.
func mixed(n int, r *rand) []item {
	l := make([]item, n)
	for i := range l {
		l[i] = item{i - n/2, r.key()}
	}
	return shuffled(l, r)
}

// shuffled is the same in another order.
func shuffled(l []item, r *rand) []item {
	l = slices.Clone(l)
	for i := range l {
		k := r.below(i + 1)
		l[i], l[k] = l[k], l[i]
	}
	return l
}

// sorted is the order in which things are to come out.
func sorted(l []item) []item {
	l = slices.Clone(l)
	slices.SortFunc(l, func(a, b item) int {
		switch c := order(a.key, b.key); {
		case c != 0:
			return c
		case a.id < b.id:
			return -1
		}
		return 1
	})
	return l
}

// with is a heap of those things, put in as they stand.
func with(t *testing.T, l ...item) *heap.Heap {
	t.Helper()
	h := heap.New()
	if h == nil {
		t.Fatal("New() is nil")
	}
	for _, x := range l {
		push(t, h, x)
	}
	return h
}

// push puts a thing in; it fails, if that may not be.
func push(t *testing.T, h *heap.Heap, x item) {
	t.Helper()
	if e := h.Push(x.id, x.key); e != api.OK {
		t.Fatalf("Push(%d, %v) = %v", x.id, x.key, e)
	}
}

// lower lets a thing have a lesser key; it fails, if that may not be.
func lower(t *testing.T, h *heap.Heap, x item) {
	t.Helper()
	if e := h.Lower(x.id, x.key); e != api.OK {
		t.Fatalf("Lower(%d, %v) = %v", x.id, x.key, e)
	}
}

// drained is what comes out of a heap, till nothing does.
func drained(t *testing.T, h *heap.Heap) []item {
	t.Helper()
	var l []item
	for n := h.Len(); n > 0; n-- {
		id, k, is := h.Pop()
		if !is || h.Len() != n-1 {
			t.Fatalf("with %d in: Pop() = %d, %v, %v, and %d are in", n, id, k, is, h.Len())
		}
		if k, is := h.Key(id); is || k != (heap.Key{}) {
			t.Fatalf("Key(%d) = %v, %v, though it was taken", id, k, is)
		}
		l = append(l, item{id, k})
	}
	empty(t, h)
	return l
}

// empty fails, if something is in a heap, or told to be.
func empty(t *testing.T, h *heap.Heap) {
	t.Helper()
	if n := h.Len(); n != 0 {
		t.Fatalf("%d are in", n)
	}
	for range 2 {
		if id, k, is := h.Pop(); id != 0 || k != (heap.Key{}) || is {
			t.Fatalf("Pop() of none = %d, %v, %v", id, k, is)
		}
	}
	for _, id := range numbers() {
		if k, is := h.Key(id); k != (heap.Key{}) || is {
			t.Fatalf("Key(%d) of none = %v, %v", id, k, is)
		}
	}
}

// holds fails, if not just these things are in; the heap stays as it is.
func holds(t *testing.T, h *heap.Heap, l ...item) {
	t.Helper()
	if h.Len() != len(l) {
		t.Fatalf("%d are in, not %d", h.Len(), len(l))
	}
	for _, x := range l {
		if k, is := h.Key(x.id); k != x.key || !is {
			t.Fatalf("Key(%d) = %v, %v, not %v", x.id, k, is, x.key)
		}
	}
	if got, want := drained(t, h.Clone()), sorted(l); !slices.Equal(got, want) {
		t.Fatalf("out came %v, not %v", got, want)
	}
}

// P7.1

func TestLess(t *testing.T) {
	l := keys()
	if len(l) < 200 {
		t.Fatal(len(l))
	}
	for i, a := range l {
		for k, b := range l {
			if got := heap.Less(a, b); got != (i < k) {
				t.Errorf("Less(%v, %v) = %v", a, b, got)
			}
		}
	}
}

func TestLessByTheNumberAhead(t *testing.T) {
	// Whatever stands behind says nothing, if what stands ahead is less.
	for _, c := range []struct{ a, b heap.Key }{
		{heap.Key{F: 1, H: 9, Y: 9, X: 9}, heap.Key{F: 2, H: 0, Y: -9, X: -9}},
		{heap.Key{F: 1, H: 1, Y: 9, X: 9}, heap.Key{F: 1, H: 2, Y: -9, X: -9}},
		{heap.Key{F: 1, H: 1, Y: -1, X: 9}, heap.Key{F: 1, H: 1, Y: 0, X: -9}},
		{heap.Key{F: 1, H: 1, Y: 1, X: -1}, heap.Key{F: 1, H: 1, Y: 1, X: 0}},
		{heap.Key{F: 1 << 63, X: 1}, heap.Key{F: 1<<63 + 1}},
		{heap.Key{F: 1<<63 - 1, X: 1}, heap.Key{F: 1 << 63}},
	} {
		if !heap.Less(c.a, c.b) || heap.Less(c.b, c.a) || heap.Less(c.a, c.a) || heap.Less(c.b, c.b) {
			t.Error(c)
		}
	}
}

func TestNew(t *testing.T) {
	h, g := with(t), with(t)
	empty(t, h)
	push(t, g, item{5, heap.Key{F: 1}})
	empty(t, h)
	empty(t, with(t))
	holds(t, g, item{5, heap.Key{F: 1}})
}

func TestPushOfAnyNumber(t *testing.T) {
	for _, k := range []heap.Key{{}, {F: 7}, keys()[0], {F: math.MaxUint64, H: math.MaxUint64, Y: math.MaxInt, X: math.MaxInt}} {
		h := with(t)
		var l []item
		for _, id := range numbers() {
			push(t, h, item{id, k})
			l = append(l, item{id, k})
			holds(t, h, l...)
		}
	}
}

func TestPushOfOneThatIsIn(t *testing.T) {
	r := rand(1)
	for _, n := range []int{1, 2, 3, 10, 40} {
		l := mixed(n, &r)
		h := with(t, l...)
		for _, x := range l {
			for _, k := range []heap.Key{x.key, {}, r.key(), {F: math.MaxUint64}} {
				if e := h.Push(x.id, k); e != api.ErrThere {
					t.Errorf("Push(%d, %v), that is in at %v: %v", x.id, k, x.key, e)
				}
			}
		}
		holds(t, h, l...)
	}
}

func TestPushOfOneThatWasTaken(t *testing.T) {
	h := with(t, item{1, heap.Key{F: 1}}, item{2, heap.Key{F: 2}}, item{3, heap.Key{F: 3}})
	h.Pop()
	holds(t, h, item{2, heap.Key{F: 2}}, item{3, heap.Key{F: 3}})
	push(t, h, item{1, heap.Key{F: 9}})
	holds(t, h, item{1, heap.Key{F: 9}}, item{2, heap.Key{F: 2}}, item{3, heap.Key{F: 3}})
	drained(t, h)
	push(t, h, item{2, heap.Key{F: 4}})
	holds(t, h, item{2, heap.Key{F: 4}})
}

func TestLower(t *testing.T) {
	l := keys()
	for i, k := range l {
		h := with(t, item{3, k}, item{4, k}, item{-5, k})
		for j, next := range l {
			want, now := api.ErrArg, k
			if j < i {
				want, now = api.OK, next
			}
			g := h.Clone()
			if e := g.Lower(3, next); e != want {
				t.Fatalf("Lower from %v to %v = %v", k, next, e)
			}
			if got, is := g.Key(3); got != now || !is {
				t.Fatalf("lowered from %v to %v: %v, %v", k, next, got, is)
			}
		}
		holds(t, h, item{3, k}, item{4, k}, item{-5, k})
	}
}

func TestLowerOfEachThing(t *testing.T) {
	r := rand(2)
	for _, n := range []int{1, 2, 3, 4, 7, 8, 33} {
		l := mixed(n, &r)
		for i, x := range l {
			for range 8 {
				h, now, k := with(t, l...), slices.Clone(l), r.key()
				want := api.ErrArg
				if order(k, x.key) < 0 {
					want, now[i].key = api.OK, k
				}
				if e := h.Lower(x.id, k); e != want {
					t.Fatalf("Lower(%d, %v) from %v = %v", x.id, k, x.key, e)
				}
				holds(t, h, now...)
			}
		}
	}
}

func TestLowerAgainAndAgain(t *testing.T) {
	l := keys()
	last := l[len(l)-1]
	h := with(t, item{0, last}, item{1, last}, item{2, l[len(l)/2]})
	for i := len(l) - 2; i >= 0; i-- {
		lower(t, h, item{1, l[i]})
		if e := h.Lower(1, l[i]); e != api.ErrArg {
			t.Fatalf("Lower to %v, which it is: %v", l[i], e)
		}
		holds(t, h, item{0, last}, item{1, l[i]}, item{2, l[len(l)/2]})
	}
}

func TestLowerOfOneThatIsNotIn(t *testing.T) {
	h := with(t)
	for _, id := range numbers() {
		if e := h.Lower(id, heap.Key{}); e != api.ErrNone {
			t.Errorf("Lower(%d) of a heap without things = %v", id, e)
		}
	}
	empty(t, h)
	first, next := item{7, heap.Key{F: 3}}, item{8, heap.Key{F: 5}}
	h = with(t, next, first)
	for _, id := range numbers() {
		// Be the key less than those that are in, or not.
		for _, k := range []heap.Key{{}, {F: 4}, {F: 9}} {
			if e := h.Lower(id, k); e != api.ErrNone {
				t.Errorf("Lower(%d, %v) = %v", id, k, e)
			}
		}
	}
	holds(t, h, first, next)
	h.Pop()
	if e := h.Lower(7, heap.Key{}); e != api.ErrNone {
		t.Errorf("Lower of one that was taken = %v", e)
	}
	holds(t, h, next)
}

// P7.2

func TestPopOfTheExample(t *testing.T) {
	l := []item{{5, heap.Key{F: 3}}, {9, heap.Key{F: 3}}, {2, heap.Key{F: 4}}}
	h := with(t, l...)
	for _, want := range []int{5, 9, 2} {
		if id, _, is := h.Pop(); id != want || !is {
			t.Errorf("Pop() = %d, %v, not %d", id, is, want)
		}
	}
	h = with(t, l...)
	lower(t, h, item{2, heap.Key{F: 3, Y: -1}})
	if id, k, is := h.Pop(); id != 2 || k != (heap.Key{F: 3, Y: -1}) || !is {
		t.Errorf("Pop() = %d, %v, %v", id, k, is)
	}
	holds(t, h, l[:2]...)
}

func TestPopOfTheSameKey(t *testing.T) {
	// The least number is first, on whichever side of 0; it says nothing, if keys are not the same.
	for _, k := range []heap.Key{{}, {F: 3, H: 2, Y: -1, X: 1}, {F: math.MaxUint64}} {
		var l []item
		for _, id := range numbers() {
			l = append(l, item{id, k})
		}
		h := with(t, l...)
		want := slices.Sorted(slices.Values(numbers()))
		for _, x := range want {
			if id, key, is := h.Pop(); id != x || key != k || !is {
				t.Errorf("Pop() = %d, %v, %v, not %d", id, key, is, x)
			}
		}
		empty(t, h)
	}
	h := with(t, item{1, heap.Key{X: 1}}, item{2, heap.Key{}}, item{math.MinInt, heap.Key{X: 2}})
	for _, want := range []int{2, 1, math.MinInt} {
		if id, _, _ := h.Pop(); id != want {
			t.Errorf("Pop() = %d, not %d", id, want)
		}
	}
}

func TestPopOfEachKey(t *testing.T) {
	r := rand(3)
	var l []item
	for i, k := range keys() {
		l = append(l, item{-i, k}) // numbers the other way round than keys
	}
	for range 5 {
		holds(t, with(t, shuffled(l, &r)...), l...)
	}
}

func TestPopTakes(t *testing.T) {
	h := with(t, item{4, heap.Key{F: 2}})
	if id, k, is := h.Pop(); id != 4 || k != (heap.Key{F: 2}) || !is {
		t.Errorf("Pop() = %d, %v, %v", id, k, is)
	}
	empty(t, h)
	if e := h.Lower(4, heap.Key{}); e != api.ErrNone {
		t.Error(e)
	}
	// A thing 0 without anything in its key is told from none.
	push(t, h, item{})
	if k, is := h.Key(0); k != (heap.Key{}) || !is || h.Len() != 1 {
		t.Error(k, is, h.Len())
	}
	if id, k, is := h.Pop(); id != 0 || k != (heap.Key{}) || !is {
		t.Errorf("Pop() = %d, %v, %v", id, k, is)
	}
	empty(t, h)
}

func TestKey(t *testing.T) {
	r := rand(4)
	l := mixed(50, &r)
	h := with(t, l...)
	for _, id := range []int{-26, 25, math.MinInt, math.MaxInt} {
		if k, is := h.Key(id); k != (heap.Key{}) || is {
			t.Errorf("Key(%d) = %v, %v", id, k, is)
		}
	}
	for range 2 { // asking turns nothing
		for _, x := range l {
			if k, is := h.Key(x.id); k != x.key || !is {
				t.Errorf("Key(%d) = %v, %v, not %v", x.id, k, is, x.key)
			}
		}
	}
	holds(t, h, l...)
}

func TestClone(t *testing.T) {
	r := rand(5)
	for _, n := range []int{0, 1, 2, 3, 20} {
		l := mixed(n, &r)
		h := with(t, l...)
		g := h.Clone()
		if g == nil || g == h {
			t.Fatal("a clone is none, or the same")
		}
		holds(t, g, l...)
		// What is done to one does nothing to the other one, and they may be filled alike.
		extra := item{1000, heap.Key{F: 1}}
		push(t, g, extra)
		holds(t, h, l...)
		other := item{1000, heap.Key{F: 2, X: 1}}
		push(t, h, other)
		holds(t, g, append(slices.Clone(l), extra)...)
		holds(t, h, append(slices.Clone(l), other)...)
		lower(t, h, item{1000, heap.Key{}})
		holds(t, g, append(slices.Clone(l), extra)...)
		drained(t, h)
		holds(t, g, append(slices.Clone(l), extra)...)
		h = g.Clone()
		drained(t, g)
		holds(t, h, append(slices.Clone(l), extra)...)
	}
}

func TestCloneOfOneThatWasTakenFrom(t *testing.T) {
	// Room that is left behind its things is not shared either.
	h := with(t, item{1, heap.Key{F: 1}}, item{2, heap.Key{F: 2}}, item{3, heap.Key{F: 3}})
	h.Pop()
	g := h.Clone()
	push(t, h, item{4, heap.Key{F: 4}})
	push(t, g, item{5, heap.Key{F: 5}})
	holds(t, h, item{2, heap.Key{F: 2}}, item{3, heap.Key{F: 3}}, item{4, heap.Key{F: 4}})
	holds(t, g, item{2, heap.Key{F: 2}}, item{3, heap.Key{F: 3}}, item{5, heap.Key{F: 5}})
}

func TestNilHeap(t *testing.T) {
	var none *heap.Heap
	for _, id := range numbers() {
		for _, k := range []heap.Key{{}, {F: 1, H: 2, Y: -3, X: 4}} {
			if e := none.Push(id, k); e != api.ErrNil {
				t.Errorf("Push(%d, %v) = %v", id, k, e)
			}
			if e := none.Lower(id, k); e != api.ErrNil {
				t.Errorf("Lower(%d, %v) = %v", id, k, e)
			}
		}
	}
	empty(t, none)
	if none.Clone() != nil {
		t.Error("a nil heap has a clone")
	}
}

// P7.3

func TestWhatIsPutInComesOutOnceInOrder(t *testing.T) {
	r := rand(6)
	for n := range 70 {
		for range 4 {
			l := mixed(n, &r)
			out := drained(t, with(t, l...))
			if !slices.Equal(out, sorted(l)) {
				t.Fatalf("out of %v came %v", l, out)
			}
			for i := 1; i < len(out); i++ {
				if heap.Less(out[i].key, out[i-1].key) {
					t.Fatalf("%v came behind %v", out[i], out[i-1])
				}
			}
		}
	}
}

func TestInWhateverOrder(t *testing.T) {
	// All orders of few things, some of them with the same key.
	l := []item{{3, heap.Key{F: 1}}, {-3, heap.Key{F: 1}}, {1, heap.Key{F: 1, X: -1}}, {2, heap.Key{F: 2}}, {0, heap.Key{H: 4}}, {9, heap.Key{F: 1}}, {4, heap.Key{F: 2, Y: -1}}}
	want := sorted(l)
	var orders func(done, left []item)
	n := 0
	orders = func(done, left []item) {
		if len(left) == 0 {
			n++
			if out := drained(t, with(t, done...)); !slices.Equal(out, want) {
				t.Fatalf("put in as %v: %v, not %v", done, out, want)
			}
		}
		for i, x := range left {
			orders(append(slices.Clone(done), x), slices.Delete(slices.Clone(left), i, i+1))
		}
	}
	orders(nil, l)
	if n != 5040 {
		t.Error(n)
	}
}

func TestInWhateverOrderOfManyLowered(t *testing.T) {
	r := rand(7)
	for range 40 {
		l := mixed(60, &r)
		now := slices.Clone(l)
		var lowered []item
		for i, x := range l {
			if k := r.key(); order(k, x.key) < 0 {
				now[i].key = k
				lowered = append(lowered, now[i])
			}
		}
		for range 3 {
			h := with(t, shuffled(l, &r)...)
			for _, x := range shuffled(lowered, &r) {
				lower(t, h, x)
			}
			holds(t, h, now...)
		}
	}
}

func TestOneThatWasLoweredComesNoLater(t *testing.T) {
	r := rand(8)
	for range 300 {
		l := mixed(1+r.below(25), &r)
		h := with(t, l...)
		x := l[r.below(len(l))]
		if k := r.key(); order(k, x.key) < 0 {
			was := slices.Index(drained(t, h.Clone()), x)
			lower(t, h, item{x.id, k})
			if now := slices.Index(drained(t, h), item{x.id, k}); now < 0 || now > was {
				t.Fatalf("lowered from %v to %v it comes at %d, not %d", x.key, k, now, was)
			}
		}
	}
}

// turn does something to a heap and to the things that are to be in it, and holds what they answer against one another.
func turn(t *testing.T, h *heap.Heap, l []item, r *rand) []item {
	t.Helper()
	x := item{r.below(40) - 20, r.key()}
	at := slices.IndexFunc(l, func(one item) bool { return one.id == x.id })
	switch r.below(5) {
	case 0, 1:
		want := api.ErrThere
		if at < 0 {
			l, want = append(l, x), api.OK
		}
		if e := h.Push(x.id, x.key); e != want {
			t.Fatalf("Push(%d, %v) with %v in = %v", x.id, x.key, l, e)
		}
	case 2, 3:
		want := api.ErrNone
		if at >= 0 && order(x.key, l[at].key) < 0 {
			l[at].key, want = x.key, api.OK
		} else if at >= 0 {
			want = api.ErrArg
		}
		if e := h.Lower(x.id, x.key); e != want {
			t.Fatalf("Lower(%d, %v) with %v in = %v", x.id, x.key, l, e)
		}
	default:
		var want item
		if len(l) > 0 {
			want = sorted(l)[0]
		}
		if id, k, is := h.Pop(); (item{id, k}) != want || is != (len(l) > 0) {
			t.Fatalf("Pop() with %v in = %d, %v, %v", l, id, k, is)
		}
		l = slices.DeleteFunc(l, func(one item) bool { return one.id == want.id })
	}
	return l
}

func TestManyTurns(t *testing.T) {
	for seed := range 30 {
		r := rand(100 + seed)
		h := with(t)
		var l []item
		for range 200 {
			l = turn(t, h, l, &r)
			holds(t, h, l...)
		}
	}
}

func TestManyThings(t *testing.T) {
	r := rand(9)
	l := mixed(1<<16, &r)
	h := with(t, l...)
	for i := range l {
		if r.below(2) == 0 {
			l[i].key = heap.Key{F: l[i].key.F, H: l[i].key.H, Y: l[i].key.Y, X: -1 - r.below(9)}
			if was, _ := h.Key(l[i].id); order(l[i].key, was) < 0 {
				lower(t, h, l[i])
			}
			l[i].key, _ = h.Key(l[i].id)
		}
	}
	if !slices.Equal(drained(t, h), sorted(l)) {
		t.Error("not in order")
	}
}
