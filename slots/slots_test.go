package slots

import (
	"math"
	"math/rand"
	"slices"
	"testing"

	"evenhanded/api"
)

const (
	least = math.MinInt
	most  = math.MaxInt
)

func put(t *testing.T, s *Slots, id, slot int, err api.Errno) {
	t.Helper()
	if n, e := s.Put(id); n != slot || e != err {
		t.Errorf("Put(%d): %d, %v, want %d, %v", id, n, e, slot, err)
	}
}

func get(t *testing.T, s *Slots, id, slot int, there bool) {
	t.Helper()
	if n, ok := s.Get(id); n != slot || ok != there {
		t.Errorf("Get(%d): %d, %v, want %d, %v", id, n, ok, slot, there)
	}
}

func idAt(t *testing.T, s *Slots, slot, id int, there bool) {
	t.Helper()
	if n, ok := s.ID(slot); n != id || ok != there {
		t.Errorf("ID(%d): %d, %v, want %d, %v", slot, n, ok, id, there)
	}
}

func drop(t *testing.T, s *Slots, id int, there bool) {
	t.Helper()
	if ok := s.Drop(id); ok != there {
		t.Errorf("Drop(%d): %v, want %v", id, ok, there)
	}
}

func holds(t *testing.T, s *Slots, ids ...int) {
	t.Helper()
	if got := s.IDs(); !slices.Equal(got, ids) {
		t.Errorf("IDs: %v, want %v", got, ids)
	}
	if n := s.Len(); n != len(ids) {
		t.Errorf("Len: %d, want %d", n, len(ids))
	}
}

func filled(t *testing.T, n int) *Slots {
	t.Helper()
	s := New(n)
	for i := range n {
		put(t, s, 10*i, i, api.OK)
	}
	return s
}

// P5.1: the chapter's example.
func TestExample(t *testing.T) {
	s := New(8)
	put(t, s, 9, 0, api.OK)
	put(t, s, 4, 1, api.OK)
	drop(t, s, 9, true)
	put(t, s, 7, 0, api.OK)
	holds(t, s, 4, 7)
}

// P5.1: a new table has nothing in it.
func TestNew(t *testing.T) {
	for _, n := range []int{least, -1, 0, 1, 3, api.MaxTasks, most} {
		s := New(n)
		holds(t, s)
		for _, k := range []int{least, -1, 0, 1, 3, 63, 64, api.MaxTasks - 1, api.MaxTasks, most} {
			get(t, s, k, 0, false)
			idAt(t, s, k, 0, false)
			drop(t, s, k, false)
		}
	}
}

// P5.1: as many slots as asked for, none below 0 and MaxTasks above it.
func TestHowMany(t *testing.T) {
	rows := []struct{ n, slots int }{
		{least, 0}, {-1, 0}, {0, 0}, {1, 1}, {2, 2}, {63, 63}, {64, 64}, {65, 65}, {127, 127}, {128, 128}, {129, 129},
		{api.MaxTasks - 1, api.MaxTasks - 1}, {api.MaxTasks, api.MaxTasks},
		{api.MaxTasks + 1, api.MaxTasks}, {most, api.MaxTasks},
	}
	for _, r := range rows {
		s := New(r.n)
		for i := range r.slots {
			put(t, s, -i, i, api.OK)
		}
		put(t, s, 1, 0, api.ErrFull)
		put(t, s, -r.slots, 0, api.ErrFull)
		if s.Len() != r.slots {
			t.Errorf("New(%d): %d slots, want %d", r.n, s.Len(), r.slots)
		}
		idAt(t, s, r.slots, 0, false)
	}
}

// P5.1: an id is any number, also one below 0.
func TestAnyID(t *testing.T) {
	s := New(6)
	for i, id := range []int{0, most, -1, least, api.MaxTasks, 1} {
		put(t, s, id, i, api.OK)
		get(t, s, id, i, true)
		idAt(t, s, i, id, true)
	}
	holds(t, s, least, -1, 0, 1, api.MaxTasks, most)
	for _, id := range []int{least, most, 0, 1} {
		drop(t, s, id, true)
		get(t, s, id, 0, false)
	}
	holds(t, s, -1, api.MaxTasks)
}

// P5.1: ErrThere goes ahead of ErrFull, and a refused Put changes nothing.
func TestRefused(t *testing.T) {
	s := New(3)
	put(t, s, 5, 0, api.OK)
	put(t, s, 6, 1, api.OK)
	put(t, s, 6, 0, api.ErrThere)
	get(t, s, 6, 1, true)
	holds(t, s, 5, 6)
	put(t, s, 7, 2, api.OK)
	put(t, s, 7, 0, api.ErrThere)
	put(t, s, 5, 0, api.ErrThere)
	put(t, s, 8, 0, api.ErrFull)
	get(t, s, 8, 0, false)
	drop(t, s, 8, false)
	for slot, id := range []int{5, 6, 7} {
		get(t, s, id, slot, true)
		idAt(t, s, slot, id, true)
	}
	holds(t, s, 5, 6, 7)
	put(t, New(0), 5, 0, api.ErrFull)
}

// P5.1: a slot that is freed is the least free one, if none is below it.
func TestLeastFree(t *testing.T) {
	s := filled(t, 5)
	drop(t, s, 30, true)
	drop(t, s, 10, true)
	drop(t, s, 40, true)
	put(t, s, 1, 1, api.OK)
	put(t, s, 2, 3, api.OK)
	drop(t, s, 0, true)
	put(t, s, 3, 0, api.OK)
	put(t, s, 4, 4, api.OK)
	put(t, s, 5, 0, api.ErrFull)
	holds(t, s, 1, 2, 3, 4, 20)
}

// P5.1: wherever in a great table a slot is freed, it is found.
func TestEachSlot(t *testing.T) {
	s := filled(t, api.MaxTasks)
	for slot := range api.MaxTasks {
		drop(t, s, 10*slot, true)
		idAt(t, s, slot, 0, false)
		put(t, s, -1, slot, api.OK)
		drop(t, s, -1, true)
		put(t, s, 10*slot, slot, api.OK)
		put(t, s, -1, 0, api.ErrFull)
	}
	for slot := api.MaxTasks - 1; slot >= 0; slot-- {
		drop(t, s, 10*slot, true)
		put(t, s, -1, slot, api.OK)
		drop(t, s, -1, true)
	}
	holds(t, s)
}

// P5.1: what was at a slot is known neither by its id nor by the slot once it is dropped.
func TestDrop(t *testing.T) {
	s := New(2)
	put(t, s, 9, 0, api.OK)
	put(t, s, 4, 1, api.OK)
	drop(t, s, 9, true)
	drop(t, s, 9, false)
	get(t, s, 9, 0, false)
	idAt(t, s, 0, 0, false)
	get(t, s, 4, 1, true)
	idAt(t, s, 1, 4, true)
	holds(t, s, 4)
	put(t, s, 9, 0, api.OK)
	idAt(t, s, 0, 9, true)
	holds(t, s, 4, 9)
}

// P5.1: no slot stands below 0 or past the last one, and a slot is no id.
func TestNoSlot(t *testing.T) {
	s := filled(t, 3)
	for _, slot := range []int{least, -64, -1, 3, 4, 63, 64, api.MaxTasks - 1, api.MaxTasks, most} {
		idAt(t, s, slot, 0, false)
	}
	for _, id := range []int{least, -1, 1, 2, 3, 19, 21, 30, most} {
		get(t, s, id, 0, false)
		drop(t, s, id, false)
	}
	holds(t, s, 0, 10, 20)
}

// R4: a list that was answered is nobody else's.
func TestNewMemory(t *testing.T) {
	s := filled(t, 4)
	first, second := s.IDs(), s.IDs()
	for _, l := range [][]int{first, s.IDs()[:1]} {
		l = l[:cap(l)]
		for i := range l {
			l[i] = -7
		}
	}
	if want := []int{0, 10, 20, 30}; !slices.Equal(second, want) {
		t.Errorf("two answers share memory: %v", second)
	}
	holds(t, s, 0, 10, 20, 30)
	drop(t, s, 10, true)
	if want := []int{0, 10, 20, 30}; !slices.Equal(second, want) {
		t.Errorf("an answer changes with the table: %v", second)
	}
}

// R5: two tables know nothing of each other.
func TestTwoTables(t *testing.T) {
	a, b := New(2), New(2)
	put(t, a, 1, 0, api.OK)
	holds(t, b)
	put(t, b, 2, 0, api.OK)
	put(t, b, 1, 1, api.OK)
	drop(t, a, 2, false)
	holds(t, a, 1)
	holds(t, b, 1, 2)
}

// R7: a table that is nil, and one that New has not made, has nothing.
func TestNoTable(t *testing.T) {
	var none *Slots
	put(t, none, 1, 0, api.ErrArg)
	put(t, new(Slots), 1, 0, api.ErrFull)
	for _, s := range []*Slots{none, new(Slots)} {
		get(t, s, 1, 0, false)
		idAt(t, s, 0, 0, false)
		drop(t, s, 1, false)
		holds(t, s)
	}
}

// plain is the table in its simplest words: a row of slots, each with an id or none.
type plain []struct {
	id    int
	there bool
}

func (p plain) find(id int) (int, bool) {
	for slot, at := range p {
		if at.there && at.id == id {
			return slot, true
		}
	}
	return 0, false
}

func (p plain) put(id int) (int, api.Errno) {
	if _, there := p.find(id); there {
		return 0, api.ErrThere
	}
	for slot := range p {
		if !p[slot].there {
			p[slot].id, p[slot].there = id, true
			return slot, api.OK
		}
	}
	return 0, api.ErrFull
}

func (p plain) drop(id int) bool {
	slot, there := p.find(id)
	if there {
		p[slot].there = false
	}
	return there
}

func (p plain) ids() []int {
	var all []int
	for _, at := range p {
		if at.there {
			all = append(all, at.id)
		}
	}
	slices.Sort(all)
	return all
}

func agree(t *testing.T, s *Slots, p plain, ids int) {
	t.Helper()
	holds(t, s, p.ids()...)
	for slot, at := range p {
		want := 0
		if at.there {
			want = at.id
		}
		idAt(t, s, slot, want, at.there)
	}
	for id := -ids; id <= ids; id++ {
		slot, there := p.find(id)
		get(t, s, id, slot, there)
	}
}

// P5.1: long rows of calls against the simple table.
func TestAgainstPlain(t *testing.T) {
	random := rand.New(rand.NewSource(5))
	for _, n := range []int{0, 1, 2, 5, 63, 64, 65, 130, 200} {
		s, p := New(n), make(plain, n)
		ids := n*2/3 + 2
		for step := range 4000 {
			id := random.Intn(2*ids+1) - ids
			// Now more are put, now more are dropped, so that the table is full and empty by turns.
			if random.Intn(10) < 3+4*(step/500%2) {
				drop(t, s, id, p.drop(id))
			} else {
				slot, err := p.put(id)
				put(t, s, id, slot, err)
			}
			if step%100 == 0 {
				agree(t, s, p, ids)
			}
		}
		agree(t, s, p, ids)
		if t.Failed() {
			t.Fatalf("of %d slots", n)
		}
	}
}

// P5.1: the least free slot is found soon, also where nearly all are taken.
func BenchmarkLeastFree(b *testing.B) {
	s := New(api.MaxTasks)
	for i := range api.MaxTasks {
		s.Put(i)
	}
	for b.Loop() {
		s.Drop(api.MaxTasks - 1)
		s.Put(api.MaxTasks - 1)
	}
}
