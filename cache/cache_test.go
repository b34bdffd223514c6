package cache_test

import (
	"math"
	"slices"
	"strconv"
	"testing"

	"gloaming/api"
	"gloaming/cache"
)

// rand is numbers without a plain rule, others by each seed.
type rand uint64

// below is the next one, from 0 to n less 1.
func (r *rand) below(n int) int {
	*r = *r*6364136223846793005 + 1442695040888963407
	return int(uint64(*r) >> 33 % uint64(n))
}

// rooms are all that may be.
func rooms() []int {
	var l []int
	for room := 1; room <= api.MaxCache; room++ {
		l = append(l, room)
	}
	return l
}

// wrongRooms are some that may not be.
func wrongRooms() []int {
	return []int{0, -1, -16, 17, 18, 32, 255, 256, 1<<32 + 1, 1<<32 + 16, -1 << 32, 1<<32 - 1, math.MaxInt, math.MinInt, math.MinInt + 1}
}

// made is a cache without things; it fails, if there is none.
func made[K comparable, V any](t *testing.T, room int) *cache.Cache[K, V] {
	t.Helper()
	c, e := cache.New[K, V](room)
	if c == nil || e != api.OK {
		t.Fatalf("New(%d) = %v, %v", room, c, e)
	}
	return c
}

// with is a cache of those keys, put in as they stand, under each its place from 100 on.
func with(t *testing.T, room int, keys ...int) *cache.Cache[int, int] {
	t.Helper()
	c := made[int, int](t, room)
	for i, k := range keys {
		c.Put(k, 100+i)
	}
	return c
}

// item is a key and what is under it.
type item struct {
	k, v int
}

// model is a plain reading of the chapter: what is in a cache, in order.
type model struct {
	room  int
	items []item
}

// of is what is in under a key, and where.
func (m *model) of(k int) (int, int, bool) {
	for i, x := range m.items {
		if x.k == k {
			return i, x.v, true
		}
	}
	return 0, 0, false
}

// get is what Get is to answer.
func (m *model) get(k int) (int, bool) {
	i, v, is := m.of(k)
	if is {
		rest := append(slices.Clone(m.items[:i]), m.items[i+1:]...)
		m.items = append([]item{{k, v}}, rest...)
	}
	return v, is
}

// put is what Put is to answer.
func (m *model) put(k, v int) (int, bool) {
	gone, is := 0, false
	if i, _, in := m.of(k); in {
		m.items = append(slices.Clone(m.items[:i]), m.items[i+1:]...)
	} else if len(m.items) == m.room {
		gone, is = m.items[m.room-1].k, true
		m.items = m.items[:m.room-1]
	}
	m.items = append([]item{{k, v}}, m.items...)
	return gone, is
}

// drop is what Drop is to answer.
func (m *model) drop(such func(int) bool) int {
	var stay []item
	for _, x := range m.items {
		if !such(x.k) {
			stay = append(stay, x)
		}
	}
	n := len(m.items) - len(stay)
	m.items = stay
	return n
}

// keys are those that are in.
func (m *model) keys() []int {
	var l []int
	for _, x := range m.items {
		l = append(l, x.k)
	}
	return l
}

// holds fails, if not just these things are in a cache, in this order; the cache stays as it is.
func holds(t *testing.T, c *cache.Cache[int, int], l ...item) {
	t.Helper()
	want := (&model{items: l}).keys()
	if got := c.Keys(); !slices.Equal(got, want) || c.Len() != len(want) {
		t.Fatalf("%d are in, by the keys %v, not %v", c.Len(), got, want)
	}
	for _, x := range l {
		if v, is := c.Peek(x.k); v != x.v || !is {
			t.Fatalf("Peek(%d) = %d, %v, not %d", x.k, v, is, x.v)
		}
	}
	if got := c.Keys(); !slices.Equal(got, want) {
		t.Fatalf("Peek moved what is in from %v to %v", want, got)
	}
}

// lacks fails, if something is found under a key.
func lacks[K comparable, V comparable](t *testing.T, c *cache.Cache[K, V], k K) {
	t.Helper()
	var none V
	if v, is := c.Get(k); v != none || is {
		t.Fatalf("Get of what is not in = %v, %v", v, is)
	}
	if v, is := c.Peek(k); v != none || is {
		t.Fatalf("Peek of what is not in = %v, %v", v, is)
	}
}

// P16.1

func TestNew(t *testing.T) {
	for _, room := range rooms() {
		c := made[int, int](t, room)
		holds(t, c)
		lacks(t, c, 0)
		for k := range room {
			if gone, is := c.Put(k, 0); gone != 0 || is {
				t.Fatalf("room for %d, %d in: Put tells %d, %v", room, k, gone, is)
			}
			if c.Len() != k+1 {
				t.Fatalf("%d are in, not %d", c.Len(), k+1)
			}
		}
		if gone, is := c.Put(room, 0); gone != 0 || !is || c.Len() != room {
			t.Fatalf("room for %d, as many in: Put tells %d, %v, and %d are in", room, gone, is, c.Len())
		}
	}
}

func TestNewOfAWrongRoom(t *testing.T) {
	for _, room := range wrongRooms() {
		if c, e := cache.New[int, int](room); c != nil || e != api.ErrRange {
			t.Errorf("New(%d) = %v, %v", room, c, e)
		}
		if c, e := cache.New[string, []byte](room); c != nil || e != api.ErrRange {
			t.Errorf("New(%d) = %v, %v", room, c, e)
		}
	}
}

func TestNewSharesNothing(t *testing.T) {
	c, d := with(t, 2), with(t, 2)
	c.Put(1, 5)
	holds(t, d)
	d.Put(2, 6)
	holds(t, c, item{1, 5})
	holds(t, d, item{2, 6})
}

func TestKeys(t *testing.T) {
	c := with(t, 4, 7, 8, 9)
	holds(t, c, item{9, 102}, item{8, 101}, item{7, 100})
	// What it tells is the caller's, and as it was then.
	l := c.Keys()
	clear(l)
	_ = append(l, 5)
	holds(t, c, item{9, 102}, item{8, 101}, item{7, 100})
	l = c.Keys()
	c.Get(7)
	c.Put(1, 1)
	if !slices.Equal(l, []int{9, 8, 7}) {
		t.Error(l)
	}
	holds(t, c, item{1, 1}, item{7, 100}, item{9, 102}, item{8, 101})
}

// P16.2

func TestTheExample(t *testing.T) {
	c := with(t, 2)
	for _, k := range []int{1, 2} {
		if gone, is := c.Put(k, k); gone != 0 || is {
			t.Error(k, gone, is)
		}
	}
	if v, is := c.Get(1); v != 1 || !is {
		t.Error(v, is)
	}
	if gone, is := c.Put(3, 3); gone != 2 || !is {
		t.Error(gone, is)
	}
	holds(t, c, item{3, 3}, item{1, 1})
}

func TestGetOfEachPlace(t *testing.T) {
	for _, room := range rooms() {
		for n := range room + 1 {
			for at := range n {
				c, m := with(t, room), &model{room: room}
				for k := range n {
					c.Put(k, 50+k)
					m.put(k, 50+k)
				}
				k := m.items[at].k
				for range 2 { // one that is the first stays so
					v, is := c.Get(k)
					if v != 50+k || !is || c.Keys()[0] != k {
						t.Fatalf("room for %d, %d in: Get(%d) = %d, %v; then %v", room, n, k, v, is, c.Keys())
					}
					m.get(k)
					holds(t, c, m.items...)
				}
			}
		}
	}
}

func TestPeekOfEachPlace(t *testing.T) {
	for n := 1; n <= api.MaxCache; n++ {
		c, m := with(t, api.MaxCache), &model{room: api.MaxCache}
		for k := range n {
			c.Put(k, 50+k)
			m.put(k, 50+k)
		}
		for k := range n {
			if v, is := c.Peek(k); v != 50+k || !is {
				t.Fatalf("Peek(%d) = %d, %v", k, v, is)
			}
			if !slices.Equal(c.Keys(), m.keys()) {
				t.Fatalf("Peek(%d) moved it: %v", k, c.Keys())
			}
		}
	}
	// One that was peeked at goes as soon as if it had not been.
	c := with(t, 2, 1, 2)
	c.Peek(1)
	if gone, is := c.Put(3, 3); gone != 1 || !is {
		t.Error(gone, is)
	}
}

func TestOfOneThatIsNotIn(t *testing.T) {
	c := with(t, 3, 1, 2)
	for _, k := range []int{0, 3, -1, math.MinInt, math.MaxInt, 1 << 32, 1<<32 + 1} {
		lacks(t, c, k)
	}
	holds(t, c, item{2, 101}, item{1, 100})
	c.Put(3, 3)
	c.Put(4, 4)
	lacks(t, c, 1)
	holds(t, c, item{4, 4}, item{3, 3}, item{2, 101})
}

func TestPutOfEachPlace(t *testing.T) {
	// One that is in is the first then, and nothing is gone, be there room or not.
	for _, room := range rooms() {
		for n := 1; n <= room; n++ {
			for k := range n {
				c, m := with(t, room), &model{room: room}
				for i := range n {
					c.Put(i, i)
					m.put(i, i)
				}
				if gone, is := c.Put(k, 70); gone != 0 || is {
					t.Fatalf("room for %d, %d in: Put(%d) tells %d, %v", room, n, k, gone, is)
				}
				m.put(k, 70)
				holds(t, c, m.items...)
				if c.Keys()[0] != k || c.Len() != n {
					t.Fatal(c.Keys())
				}
			}
		}
	}
}

func TestPutOfMoreThanThereIsRoomFor(t *testing.T) {
	for _, room := range rooms() {
		c := made[int, int](t, room)
		for k := range 3 * room {
			gone, is := c.Put(k+1, k)
			if full := k >= room; is != full || full && gone != k+1-room || !full && gone != 0 {
				t.Fatalf("room for %d: Put(%d) tells %d, %v", room, k+1, gone, is)
			}
			if is {
				lacks(t, c, gone)
			}
		}
		if c.Len() != room {
			t.Fatal(c.Len())
		}
	}
}

func TestAKeyAndAThingOfNought(t *testing.T) {
	// They are told from none by what is told beside them.
	c := with(t, 1)
	if gone, is := c.Put(0, 0); gone != 0 || is {
		t.Error(gone, is)
	}
	for range 2 {
		if v, is := c.Get(0); v != 0 || !is {
			t.Error(v, is)
		}
		if v, is := c.Peek(0); v != 0 || !is {
			t.Error(v, is)
		}
	}
	holds(t, c, item{0, 0})
	if gone, is := c.Put(0, 1); gone != 0 || is {
		t.Error(gone, is)
	}
	if gone, is := c.Put(1, 2); gone != 0 || !is {
		t.Error(gone, is)
	}
	holds(t, c, item{1, 2})
}

func TestAKeyThatIsEqualToNone(t *testing.T) {
	nan := math.NaN()
	c := made[float64, int](t, 3)
	for i := range 3 {
		if gone, is := c.Put(nan, i+1); gone != 0 || is {
			t.Fatal(gone, is)
		}
		lacks(t, c, nan)
		if c.Len() != i+1 {
			t.Fatal(c.Len())
		}
	}
	if gone, is := c.Put(1, 7); gone == gone || !is || c.Len() != 3 {
		t.Error(gone, is)
	}
	if v, is := c.Get(1); v != 7 || !is {
		t.Error(v, is)
	}
	c.Put(2, 8)
	if l := c.Keys(); len(l) != 3 || l[0] != 2 || l[1] != 1 || l[2] == l[2] {
		t.Error(l)
	}
	d := c.Clone()
	if n := c.Drop(func(k float64) bool { return k != k }); n != 1 || !slices.Equal(c.Keys(), []float64{2, 1}) {
		t.Error(n, c.Keys())
	}
	if l := d.Keys(); len(l) != 3 || l[2] == l[2] {
		t.Error(l)
	}
	lacks(t, d, nan)
	// All the same keys, of which some go and others stay.
	c = made[float64, int](t, 4)
	for range 4 {
		c.Put(nan, 1)
	}
	turns := 0
	if n := c.Drop(func(float64) bool { turns++; return turns%2 == 0 }); n != 2 || turns != 4 || c.Len() != 2 {
		t.Error(n, turns, c.Len())
	}
}

func TestNoughtsOfTwoSigns(t *testing.T) {
	// They are equal: the one is found under the other.
	c := made[float64, int](t, 2)
	minus := math.Copysign(0, -1)
	c.Put(0, 5)
	c.Put(1, 6)
	if v, is := c.Get(minus); v != 5 || !is || c.Len() != 2 || c.Keys()[0] != 0 {
		t.Error(v, is, c.Keys())
	}
	if gone, is := c.Put(minus, 7); gone != 0 || is || c.Len() != 2 {
		t.Error(gone, is)
	}
	if v, is := c.Peek(0); v != 7 || !is {
		t.Error(v, is)
	}
}

// shut is a key that Go does not compare, if its kind is a list.
type shut struct {
	no   int
	kind any
}

func TestKeysThatAreNotCompared(t *testing.T) {
	// They are equal to none, and no call panics of them.
	c := made[any, int](t, 4)
	list, table := []int{1}, map[string]int{}
	for i, k := range []any{list, list, table, 1} {
		if gone, is := c.Put(k, i+1); gone != nil || is {
			t.Fatal(gone, is)
		}
	}
	for _, k := range []any{list, []int{1}, []int(nil), table, func() {}, shut{1, list}, nil, int64(1), "1"} {
		lacks(t, c, k)
	}
	if v, is := c.Get(1); v != 4 || !is || c.Len() != 4 {
		t.Error(v, is)
	}
	if gone, is := c.Put(nil, 9); !is || len(gone.([]int)) != 1 {
		t.Error(gone, is)
	}
	if v, is := c.Get(nil); v != 9 || !is {
		t.Error(v, is)
	}
	if n := c.Drop(func(k any) bool { _, is := k.([]int); return is }); n != 1 || c.Len() != 3 {
		t.Error(n, c.Len())
	}
	if d := c.Clone(); d.Len() != 3 || d.Keys()[0] != nil || d.Keys()[1] != 1 {
		t.Error(d.Keys())
	}
	// A key that is not compared stands in no other one's way.
	s := made[shut, int](t, 4)
	for i, k := range []shut{{1, list}, {2, 5}, {1, list}, {3, nil}} {
		s.Put(k, i)
	}
	lacks(t, s, shut{1, list})
	lacks(t, s, shut{2, list})
	if v, is := s.Get(shut{2, 5}); v != 1 || !is || s.Len() != 4 {
		t.Error(v, is, s.Len())
	}
	if v, is := s.Get(shut{3, nil}); v != 3 || !is {
		t.Error(v, is)
	}
}

// place is a key of several parts.
type place struct {
	at, to  api.Cell
	version int
	far     bool
	name    string
	sides   [2]int
}

func TestOtherKeysAndThings(t *testing.T) {
	k := place{at: api.Cell{X: 1}, version: 2, name: "a", sides: [2]int{3, 4}}
	others := []place{{}, k, k, k, k, k, k}
	others[1].at.Y, others[2].to.X, others[3].version, others[4].far, others[5].name, others[6].sides[1] = 1, 1, 3, true, "b", 5
	c := made[place, []byte](t, 3)
	c.Put(k, []byte("way"))
	for _, o := range others {
		if v, is := c.Get(o); v != nil || is {
			t.Errorf("Get(%v) = %v, %v", o, v, is)
		}
	}
	if v, is := c.Get(k); string(v) != "way" || !is {
		t.Error(v, is)
	}
	c.Put(others[1], nil)
	if v, is := c.Get(others[1]); v != nil || !is {
		t.Error(v, is)
	}
	p := made[*int, func() int](t, 1)
	a, b := new(int), new(int)
	p.Put(a, func() int { return 8 })
	if v, is := p.Get(b); v != nil || is {
		t.Error(is)
	}
	if v, is := p.Get(a); !is || v() != 8 {
		t.Error(is)
	}
	if gone, is := p.Put(nil, nil); gone != a || !is {
		t.Error(is)
	}
	w := made[error, struct{}](t, 2)
	for _, e := range []error{nil, api.ErrNil, nil, api.ErrNil} {
		w.Put(e, struct{}{})
	}
	if l := w.Keys(); len(l) != 2 || l[0] != error(api.ErrNil) || l[1] != nil {
		t.Error(l)
	}
}

// P16.3

func TestDropOfAllChoices(t *testing.T) {
	for n := range 9 {
		for choice := range 1 << n {
			c, m := with(t, 8), &model{room: 8}
			for k := range n {
				c.Put(k, 20+k)
				m.put(k, 20+k)
			}
			such := func(k int) bool { return choice>>k&1 == 1 }
			var asked []int
			got := c.Drop(func(k int) bool {
				asked = append(asked, k)
				return such(k)
			})
			if !slices.Equal(asked, m.keys()) {
				t.Fatalf("asked of %v, not %v", asked, m.keys())
			}
			if want := m.drop(such); got != want {
				t.Fatalf("Drop = %d, not %d", got, want)
			}
			holds(t, c, m.items...)
			for k := range n {
				if such(k) {
					lacks(t, c, k)
				}
			}
		}
	}
}

func TestDropMakesRoom(t *testing.T) {
	c := with(t, 3, 1, 2, 3)
	if n := c.Drop(func(k int) bool { return k == 2 }); n != 1 {
		t.Error(n)
	}
	if gone, is := c.Put(4, 4); gone != 0 || is {
		t.Error(gone, is)
	}
	if gone, is := c.Put(5, 5); gone != 1 || !is {
		t.Error(gone, is)
	}
	holds(t, c, item{5, 5}, item{4, 4}, item{3, 102})
	if n := c.Drop(func(int) bool { return true }); n != 3 {
		t.Error(n)
	}
	holds(t, c)
	if n := c.Drop(func(int) bool { t.Error("asked of none"); return true }); n != 0 {
		t.Error(n)
	}
	for k := range 3 {
		if _, is := c.Put(k, k); is {
			t.Error("room was lost")
		}
	}
	if gone, is := c.Put(9, 9); gone != 0 || !is {
		t.Error(gone, is)
	}
}

func TestDropOfNoFunction(t *testing.T) {
	c := with(t, 3, 1, 2, 3)
	if n := c.Drop(nil); n != 0 {
		t.Error(n)
	}
	holds(t, c, item{3, 102}, item{2, 101}, item{1, 100})
	if n := with(t, 3).Drop(nil); n != 0 {
		t.Error(n)
	}
}

func TestDropThatAsksTheCache(t *testing.T) {
	// While such is asked all is still in.
	c := with(t, 4, 1, 2, 3, 4)
	n := c.Drop(func(k int) bool {
		holds(t, c, item{4, 103}, item{3, 102}, item{2, 101}, item{1, 100})
		return k%2 == 0
	})
	if n != 2 {
		t.Error(n)
	}
	holds(t, c, item{3, 102}, item{1, 100})
}

func TestDropThatTurnsTheCache(t *testing.T) {
	// Each is asked of once, in the order in which they stood as Drop was called.
	c := with(t, 4, 1, 2, 3, 4)
	var asked []int
	n := c.Drop(func(k int) bool {
		asked = append(asked, k)
		c.Get(1)
		return k == 3
	})
	if n != 1 || !slices.Equal(asked, []int{4, 3, 2, 1}) {
		t.Error(n, asked)
	}
	holds(t, c, item{1, 100}, item{4, 103}, item{2, 101})
	// What is put in meanwhile is in, and what it drove out is not told anew.
	c = with(t, 2, 1, 2)
	if n := c.Drop(func(k int) bool { c.Put(k+10, k); return true }); n != 0 {
		t.Error(n)
	}
	holds(t, c, item{11, 1}, item{12, 2})
	// What went meanwhile went once.
	c = with(t, 3, 1, 2, 3)
	inner := 0
	if n := c.Drop(func(k int) bool {
		inner += c.Drop(func(l int) bool { return k == 2 && l == 3 })
		return k > 1
	}); n != 1 || inner != 1 {
		t.Error(n, inner)
	}
	holds(t, c, item{1, 100})
}

func TestClone(t *testing.T) {
	for _, room := range rooms() {
		for n := range room + 3 {
			c, m := with(t, room), &model{room: room}
			for k := range n {
				c.Put(k, 30+k)
				m.put(k, 30+k)
			}
			d := c.Clone()
			if d == nil || d == c {
				t.Fatal("a clone is none, or the same")
			}
			holds(t, d, m.items...)
			// What is done to one does nothing to the other one, whichever it is.
			was := slices.Clone(m.items)
			for _, k := range []int{0, n - 1, 90, 91} {
				c.Get(k)
				c.Put(k, -k)
			}
			holds(t, d, was...)
			now := &model{room: room, items: slices.Clone(was)}
			for _, k := range []int{0, n - 1, 90, 91} {
				now.get(k)
				now.put(k, -k)
			}
			holds(t, c, now.items...)
			d.Drop(func(int) bool { return true })
			holds(t, c, now.items...)
			// It has as much room.
			for k := range room {
				if _, is := d.Put(k, k); is {
					t.Fatalf("room for %d: less of the clone", room)
				}
			}
			if _, is := d.Put(room, 0); !is {
				t.Fatalf("room for %d: more of the clone", room)
			}
			holds(t, c, now.items...)
		}
	}
}

func TestCloneOfOneThatWasDroppedFrom(t *testing.T) {
	// Room that is left behind its things is not shared either.
	c := with(t, 4, 1, 2, 3)
	c.Drop(func(k int) bool { return k == 3 })
	d := c.Clone()
	c.Put(4, 4)
	d.Put(5, 5)
	holds(t, c, item{4, 4}, item{2, 101}, item{1, 100})
	holds(t, d, item{5, 5}, item{2, 101}, item{1, 100})
	e := d.Clone()
	d.Get(1)
	e.Put(1, 8)
	holds(t, d, item{1, 100}, item{5, 5}, item{2, 101})
	holds(t, e, item{1, 8}, item{5, 5}, item{2, 101})
}

func TestNilCache(t *testing.T) {
	var none *cache.Cache[int, int]
	for range 2 {
		holds(t, none)
		for _, k := range []int{0, 1, -1, math.MaxInt} {
			lacks(t, none, k)
			if gone, is := none.Put(k, 5); gone != 0 || is {
				t.Error(gone, is)
			}
		}
		if n := none.Drop(func(int) bool { t.Error("asked of none"); return true }); n != 0 {
			t.Error(n)
		}
		if n := none.Drop(nil); n != 0 {
			t.Error(n)
		}
		if none.Clone() != nil {
			t.Error("a nil cache has a clone")
		}
	}
	var other *cache.Cache[any, string]
	lacks(t, other, any([]int{}))
	if gone, is := other.Put([]int{}, "a"); gone != nil || is || len(other.Keys()) != 0 {
		t.Error(gone, is)
	}
}

// P16.4

// lately are the keys of a row of uses, the last one first, each once, no more than there is room for.
func lately(uses []int, room int) []int {
	var l []int
	for i := len(uses) - 1; i >= 0 && len(l) < room; i-- {
		if !slices.Contains(l, uses[i]) {
			l = append(l, uses[i])
		}
	}
	return l
}

// told are the keys that were used last, and what was put last under each, as a cache tells them.
func told(t *testing.T, c *cache.Cache[int, int], uses []int, room int, last map[int]int) {
	t.Helper()
	want := lately(uses, room)
	if got := c.Keys(); !slices.Equal(got, want) || c.Len() != len(want) {
		t.Fatalf("used were %v, room for %d: in are %v", uses, room, got)
	}
	for k, v := range last {
		got, is := c.Peek(k)
		if in := slices.Contains(want, k); is != in || in && got != v || !in && got != 0 {
			t.Fatalf("Peek(%d) = %d, %v, though %d was put last", k, got, is, v)
		}
	}
}

func TestAllRowsOfUses(t *testing.T) {
	// Of 4 keys each is put, or got, in all rows of 5 turns; who is got and is not in is not used.
	for room := 1; room <= 4; room++ {
		for row := range 1 << 15 {
			c := made[int, int](t, room)
			var uses []int
			last := map[int]int{}
			for turn := range 5 {
				k, put := row>>(3*turn)&3, row>>(3*turn)&4 != 0
				if put {
					before := lately(uses, room)
					gone, is := c.Put(k, turn+1)
					uses = append(uses, k)
					last[k] = turn + 1
					if drives := len(before) == room && !slices.Contains(before, k); is != drives || drives && gone != before[room-1] || !drives && gone != 0 {
						t.Fatalf("with %v in Put(%d) tells %d, %v", before, k, gone, is)
					}
				} else {
					in := slices.Contains(lately(uses, room), k)
					v, is := c.Get(k)
					if is != in || in && v != last[k] || !in && v != 0 {
						t.Fatalf("used were %v: Get(%d) = %d, %v", uses, k, v, is)
					}
					if in {
						uses = append(uses, k)
					}
				}
			}
			told(t, c, uses, room, last)
		}
	}
}

func TestLongRowsOfUses(t *testing.T) {
	for _, room := range rooms() {
		r := rand(room)
		c := made[int, int](t, room)
		var uses []int
		last := map[int]int{}
		for turn := range 600 {
			k := r.below(room + 1 + turn%(2*room))
			switch r.below(3) {
			case 0:
				if _, is := c.Get(k); is {
					uses = append(uses, k)
				}
			case 1:
				c.Peek(k)
			default:
				c.Put(k, turn)
				uses = append(uses, k)
				last[k] = turn
			}
			told(t, c, uses, room, last)
		}
	}
}

// turn does something to a cache and to what is to be in it, and holds what they answer against one another.
func turn(t *testing.T, c *cache.Cache[int, int], m *model, r *rand) {
	t.Helper()
	k, v := r.below(2*m.room+2)-1, r.below(1000)
	switch r.below(10) {
	case 0, 1, 2, 3:
		gone, is := c.Put(k, v)
		if g, i := m.put(k, v); g != gone || i != is {
			t.Fatalf("Put(%d) tells %d, %v, not %d, %v", k, gone, is, g, i)
		}
	case 4, 5, 6:
		got, is := c.Get(k)
		if g, i := m.get(k); g != got || i != is {
			t.Fatalf("Get(%d) = %d, %v, not %d, %v", k, got, is, g, i)
		}
	case 7, 8:
		got, is := c.Peek(k)
		if _, g, i := m.of(k); g != got || i != is {
			t.Fatalf("Peek(%d) = %d, %v, not %d, %v", k, got, is, g, i)
		}
	default:
		by, rest := 2+r.below(4), r.below(2)
		such := func(k int) bool { return (k+by)%by == rest }
		if got, want := c.Drop(such), m.drop(such); got != want {
			t.Fatalf("Drop = %d, not %d", got, want)
		}
	}
}

func TestManyTurns(t *testing.T) {
	for seed := range 40 {
		for _, room := range rooms() {
			r := rand(100 + seed)
			c, m := with(t, room), &model{room: room}
			var kept *cache.Cache[int, int]
			var items []item
			for i := range 120 {
				turn(t, c, m, &r)
				holds(t, c, m.items...)
				if i%30 == 15 {
					kept, items = c.Clone(), slices.Clone(m.items)
				}
				if i%30 == 29 { // what was kept has not turned
					holds(t, kept, items...)
				}
			}
		}
	}
}

func TestTheSameRowTellsTheSame(t *testing.T) {
	row := func() string {
		r := rand(9)
		c := with(t, 7)
		text := ""
		for range 400 {
			k := r.below(12)
			gone, full := c.Put(k, k)
			v, is := c.Get(r.below(12))
			n := c.Drop(func(k int) bool { return r.below(9) == k })
			for _, x := range append(c.Keys(), gone, v, n) {
				text += strconv.Itoa(x) + " "
			}
			text += strconv.FormatBool(full) + strconv.FormatBool(is)
		}
		return text
	}
	if row() != row() {
		t.Error("not the same")
	}
}
