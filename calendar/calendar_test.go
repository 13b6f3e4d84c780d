package calendar

import (
	"cmp"
	"math"
	"math/rand"
	"slices"
	"testing"

	"evenhanded/api"
)

const (
	least = math.MinInt
	most  = math.MaxInt
	limit = api.MaxHeap
)

// at is an id at a time.
type at struct{ time, id int }

func filled(all ...at) *Calendar {
	c := New()
	for _, a := range all {
		c.Put(a.time, a.id)
	}
	return c
}

func next(t *testing.T, c *Calendar, want int) {
	t.Helper()
	if time, ok := c.Next(); time != want || !ok {
		t.Errorf("Next: %d, %v, want %d, true", time, ok, want)
	}
}

func due(t *testing.T, c *Calendar, time int, want ...int) {
	t.Helper()
	if ids := c.Due(time); !slices.Equal(ids, want) {
		t.Errorf("Due(%d): %v, want %v", time, ids, want)
	}
}

func drop(t *testing.T, c *Calendar, id, want int) {
	t.Helper()
	if n := c.Drop(id); n != want {
		t.Errorf("Drop(%d): %d, want %d", id, n, want)
	}
}

func size(t *testing.T, c *Calendar, want int) {
	t.Helper()
	if n := c.Len(); n != want {
		t.Errorf("Len: %d, want %d", n, want)
	}
}

// empty holds that nothing is there, and that all beside is zero.
func empty(t *testing.T, c *Calendar) {
	t.Helper()
	size(t, c, 0)
	if time, ok := c.Next(); time != 0 || ok {
		t.Errorf("Next of none: %d, %v", time, ok)
	}
	due(t, c, most)
	size(t, c, 0)
}

// order is how Due tells them.
func order(a, b at) int {
	return cmp.Or(cmp.Compare(a.time, b.time), cmp.Compare(a.id, b.id))
}

// ids are those of some entries.
func ids(all []at) []int {
	var l []int
	for _, a := range all {
		l = append(l, a.id)
	}
	return l
}

// eachWay asks do of each order of l, of which the first k are settled.
func eachWay(l []at, k int, do func([]at)) {
	if k == len(l) {
		do(l)
	}
	for i := k; i < len(l); i++ {
		l[k], l[i] = l[i], l[k]
		eachWay(l, k+1, do)
		l[k], l[i] = l[i], l[k]
	}
}

// P7.1: the chapter's example.
func TestExample(t *testing.T) {
	c := filled(at{9, 1}, at{5, 2})
	due(t, c, 8, 2)
	size(t, c, 1)
	next(t, c, 9)
}

// P7.1: a new calendar has nothing in it.
func TestNew(t *testing.T) {
	c := New()
	empty(t, c)
	for _, n := range []int{least, -1, 0, 1, most} {
		due(t, c, n)
		drop(t, c, n, 0)
	}
	empty(t, c)
}

// P7.1: Put is one more each time, of one id, at one time, or both.
func TestPut(t *testing.T) {
	c := New()
	for i, a := range []at{{5, 1}, {5, 1}, {5, 2}, {6, 1}, {5, 1}, {4, 2}} {
		c.Put(a.time, a.id)
		size(t, c, i+1)
	}
	due(t, c, 4, 2)
	due(t, c, 5, 1, 1, 1, 2)
	due(t, c, 6, 1)
	empty(t, c)
}

// P7.1: Next is the least time, and leaves all as it is; it goes on when that one is taken out.
func TestNext(t *testing.T) {
	c := New()
	c.Put(7, 1)
	next(t, c, 7)
	c.Put(8, 2)
	next(t, c, 7)
	c.Put(-3, 3)
	next(t, c, -3)
	next(t, c, -3)
	size(t, c, 3)
	due(t, c, -3, 3)
	next(t, c, 7)
	drop(t, c, 1, 1)
	next(t, c, 8)
	c.Put(0, 4)
	next(t, c, 0)
	drop(t, c, 2, 1)
	next(t, c, 0)
	due(t, c, 0, 4)
	empty(t, c)
}

// P7.1: Due is by time, then by id, in whatever order they were put.
func TestDueOrder(t *testing.T) {
	want := []at{{-2, 9}, {5, -1}, {5, 1}, {5, 2}, {5, 2}, {6, 1}, {7, -8}}
	eachWay(slices.Clone(want), 0, func(l []at) {
		c := filled(l...)
		due(t, c, 7, ids(want)...)
		empty(t, c)
		if t.Failed() {
			t.Fatalf("put as %v", l)
		}
	})
}

// P7.1: Due has this time and earlier ones, no later one, and takes out what it has.
func TestDueTimes(t *testing.T) {
	all := []at{{3, 30}, {4, 40}, {5, 50}, {6, 60}}
	for time := 2; time <= 7; time++ {
		c, n := filled(all...), min(max(time-2, 0), len(all))
		due(t, c, time, ids(all[:n])...)
		due(t, c, time)
		size(t, c, len(all)-n)
		due(t, c, most, ids(all[n:])...)
		empty(t, c)
	}
}

// P7.1: what is put at a time that has been due is due again.
func TestPutPast(t *testing.T) {
	c := filled(at{5, 1})
	due(t, c, 9, 1)
	c.Put(5, 1)
	c.Put(4, 2)
	next(t, c, 4)
	due(t, c, 9, 2, 1)
	empty(t, c)
}

// P7.1: Drop takes out all of an id, wherever they stand, and nothing else.
func TestDrop(t *testing.T) {
	all := []at{{1, 7}, {1, 8}, {2, 7}, {2, 7}, {3, 6}, {9, 7}}
	eachWay(slices.Clone(all), 0, func(l []at) {
		c := filled(l...)
		drop(t, c, 5, 0)
		drop(t, c, 7, 4)
		drop(t, c, 7, 0)
		size(t, c, 2)
		due(t, c, 9, 8, 6)
		empty(t, c)
		if t.Failed() {
			t.Fatalf("put as %v", l)
		}
	})
}

// P7.1: of an id of which some were due, Drop counts those that are left; after it the id may come again.
func TestDropRest(t *testing.T) {
	times := []int{1, 2, 3, 4, 5}
	for gone := range 6 {
		for range 20 {
			rand.New(rand.NewSource(int64(gone))).Shuffle(5, func(i, k int) { times[i], times[k] = times[k], times[i] })
			c := New()
			for _, time := range times {
				c.Put(time, 3)
			}
			due(t, c, gone, slices.Repeat([]int{3}, gone)...)
			drop(t, c, 3, 5-gone)
			empty(t, c)
			c.Put(6, 3)
			drop(t, c, 3, 1)
			c.Put(6, 3)
			due(t, c, 6, 3)
			empty(t, c)
		}
	}
}

// P7.1, R6: any time and any id are taken, those at the ends too.
func TestEnds(t *testing.T) {
	want := []at{{least, least}, {least, most}, {0, least}, {0, 0}, {most, least}, {most, most}}
	eachWay(slices.Clone(want), 0, func(l []at) {
		c := filled(l...)
		next(t, c, least)
		due(t, c, least, least, most)
		next(t, c, 0)
		due(t, c, -1)
		due(t, c, most-1, least, 0)
		next(t, c, most)
		due(t, c, most, least, most)
		empty(t, c)
		c = filled(l...)
		drop(t, c, least, 3)
		drop(t, c, most, 2)
		drop(t, c, 0, 1)
		empty(t, c)
	})
}

// P7.1: one id far more often than a heap has slots, all at times of their own.
func TestManyOfOneID(t *testing.T) {
	n := 2*limit + 5
	c := New()
	for i := range n {
		c.Put(i*7919%n, 4) // 7919 and n have no divisor in common, so that each time is there once.
	}
	c.Put(3, 1)
	size(t, c, n+1)
	for time := range 10 {
		next(t, c, time)
		if time == 3 {
			due(t, c, time, 1, 4)
			continue
		}
		due(t, c, time, 4)
	}
	due(t, c, limit+9, slices.Repeat([]int{4}, limit)...)
	drop(t, c, 4, n-limit-10)
	empty(t, c)
}

// P7.1: far more ids than a heap has slots, all at one time and at several.
func TestManyIDs(t *testing.T) {
	n := 3*limit + 1
	for _, times := range []int{1, 2, 1000} {
		c, all := New(), make([]at, n)
		for i := range all {
			all[i] = at{i % times, i * 7919 % n}
			c.Put(all[i].time, all[i].id)
			size(t, c, i+1)
		}
		slices.SortFunc(all, order)
		half := (times - 1) / 2
		k, _ := slices.BinarySearchFunc(all, half+1, func(a at, time int) int { return cmp.Compare(a.time, time) })
		due(t, c, half, ids(all[:k])...)
		for _, a := range all[k:] {
			drop(t, c, a.id, 1)
		}
		empty(t, c)
	}
}

// P7.1: the edge of what one heap keeps, one by one.
func TestAtLimit(t *testing.T) {
	for n := limit - 2; n <= limit+2; n++ {
		c := New()
		for i := range n {
			c.Put(n-i, i)
		}
		size(t, c, n)
		next(t, c, 1)
		drop(t, c, n-1, 1)
		next(t, c, 2)
		want := make([]int, n-1)
		for i := range want {
			want[i] = n - 2 - i
		}
		due(t, c, n, want...)
		empty(t, c)
	}
}

// plain keeps the entries as a row, in no order.
type plain []at

func (p *plain) take(out func(at) bool) []int {
	var gone []at
	*p = slices.DeleteFunc(*p, func(a at) bool {
		if out(a) {
			gone = append(gone, a)
			return true
		}
		return false
	})
	slices.SortFunc(gone, order)
	return ids(gone)
}

// holds asks Next and Len of both.
func (p plain) holds(t *testing.T, c *Calendar) {
	t.Helper()
	size(t, c, len(p))
	if len(p) > 0 {
		next(t, c, slices.MinFunc(p, order).time)
	} else if time, ok := c.Next(); time != 0 || ok {
		t.Errorf("Next of none: %d, %v", time, ok)
	}
}

// P7.1: long rows of calls answer what a plain row answers.
func TestAgainstPlain(t *testing.T) {
	for seed := range 400 {
		r := rand.New(rand.NewSource(int64(seed)))
		c, p := New(), plain{}
		times, kinds, puts := 1+r.Intn(40), 1+r.Intn(12), 2+r.Intn(8)
		for range 300 {
			time, id := r.Intn(times)-times/2, r.Intn(kinds)-kinds/2
			switch k := r.Intn(puts + 2); k {
			case 0:
				due(t, c, time, p.take(func(a at) bool { return a.time <= time })...)
			case 1:
				drop(t, c, id, len(p.take(func(a at) bool { return a.id == id })))
			default:
				c.Put(time, id)
				p = append(p, at{time, id})
			}
			p.holds(t, c)
			if t.Failed() {
				t.Fatalf("seed %d", seed)
			}
		}
		due(t, c, most, p.take(func(at) bool { return true })...)
		empty(t, c)
	}
}

// room holds what a calendar keeps that never had more than 100 entries at once, and now has this many ids.
func room(t *testing.T, c *Calendar, heads int) {
	t.Helper()
	if len(c.marks.links) != 101 || len(c.heaps) != 1 || len(c.marks.heads) != heads {
		t.Errorf("%d links, %d heaps, %d heads", len(c.marks.links), len(c.heaps), len(c.marks.heads))
	}
}

// P7.1: times that go on and on, as a clock has them: what was taken out leaves its room to others.
func TestRoomIsUsedAgain(t *testing.T) {
	c := New()
	for id := range 100 {
		c.Put(id, id)
	}
	for clock := range 20000 {
		due(t, c, clock, clock%100)
		c.Put(clock+100, clock%100)
		if clock%7 == 0 {
			drop(t, c, clock%100, 1)
			c.Put(clock+100, clock%100)
		}
	}
	size(t, c, 100)
	room(t, c, 100)
	for round := range 10 {
		for id := range 50 {
			drop(t, c, id, 1)
		}
		size(t, c, 50)
		c.Due(most)
		empty(t, c)
		room(t, c, 0)
		for id := range 100 {
			c.Put(round, id)
		}
		room(t, c, 100)
	}
}

// R4: what is answered is new memory.
func TestAnswersAreNew(t *testing.T) {
	c := filled(at{1, 10}, at{1, 11}, at{2, 20}, at{2, 21}, at{3, 30})
	first := c.Due(1)
	second := c.Due(2)
	full := second[:cap(second)]
	for i := range full {
		full[i] = 77
	}
	if !slices.Equal(first, []int{10, 11}) {
		t.Errorf("the first answer is now %v", first)
	}
	for i := range first[:cap(first)] {
		first[:cap(first)][i] = 88
	}
	next(t, c, 3)
	due(t, c, 3, 30)
	empty(t, c)
}

// R5: calendars know nothing of each other.
func TestTwo(t *testing.T) {
	a, b := New(), New()
	a.Put(5, 1)
	b.Put(4, 2)
	next(t, a, 5)
	next(t, b, 4)
	drop(t, a, 2, 0)
	drop(t, b, 2, 1)
	empty(t, b)
	due(t, a, 5, 1)
	empty(t, a)
}

// R7: a nil calendar has nothing, and takes nothing.
func TestNil(t *testing.T) {
	var c *Calendar
	empty(t, c)
	for _, n := range []int{least, 0, 5, most} {
		c.Put(n, n)
		due(t, c, n)
		drop(t, c, n, 0)
		empty(t, c)
	}
}

// R1: a calendar that New did not make is empty, and may be used.
func TestUnmade(t *testing.T) {
	var c Calendar
	empty(t, &c)
	drop(t, &c, 1, 0)
	c.Put(5, 1)
	c.Put(4, 1)
	c.Put(3, 2)
	due(t, &c, 4, 2, 1)
	drop(t, &c, 1, 1)
	empty(t, &c)
}

func BenchmarkClock(b *testing.B) {
	c := New()
	for id := range api.MaxTasks {
		c.Put(id%64, id)
	}
	for clock := range b.N {
		for _, id := range c.Due(clock) {
			c.Put(clock+64, id)
		}
	}
}

func BenchmarkDropOfMany(b *testing.B) {
	c := New()
	for id := range 1 << 20 {
		c.Put(id, id)
	}
	for i := range b.N {
		id := i % (1 << 20)
		c.Drop(id)
		c.Put(i, id)
	}
}
