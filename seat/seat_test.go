package seat

import (
	"math"
	"math/rand"
	"slices"
	"testing"

	"evenhanded/api"
)

const (
	least = math.MinInt
	most  = math.MaxInt
)

// row is ids, or cores.
type row = []int

func sits(t *testing.T, s *Seats, ids, cores []int) {
	t.Helper()
	if got, err := s.Sit(ids); !slices.Equal(got, cores) || err != api.OK {
		t.Errorf("Sit(%v): %v, %v, want %v", ids, got, err, cores)
	}
}

func refuses(t *testing.T, s *Seats, ids []int, err api.Errno) {
	t.Helper()
	if got, e := s.Sit(ids); len(got) != 0 || e != err {
		t.Errorf("Sit(%v): %v, %v, want %v", ids, got, e, err)
	}
}

func last(t *testing.T, s *Seats, id, core int) {
	t.Helper()
	if got, ok := s.Last(id); got != core || !ok {
		t.Errorf("Last(%d): %d, %v, want %d", id, got, ok, core)
	}
}

func never(t *testing.T, s *Seats, ids ...int) {
	t.Helper()
	for _, id := range ids {
		if got, ok := s.Last(id); got != 0 || ok {
			t.Errorf("Last(%d): %d, %v, want none", id, got, ok)
		}
	}
}

// upTo is n numbers from 0 on.
func upTo(n int) []int {
	l := make([]int, n)
	for i := range l {
		l[i] = i
	}
	return l
}

// P14.1: the chapter's example.
func TestExample(t *testing.T) {
	s := New(2)
	sits(t, s, row{5, 7}, row{0, 1})
	sits(t, s, row{7, 9}, row{1, 0})
}

// P14.1: as many cores as asked for, none below 1 and MaxCores above it.
func TestHowMany(t *testing.T) {
	rows := []struct{ n, cores int }{
		{least, 1}, {-64, 1}, {-1, 1}, {0, 1}, {1, 1}, {2, 2}, {31, 31}, {32, 32}, {33, 33},
		{api.MaxCores - 1, api.MaxCores - 1}, {api.MaxCores, api.MaxCores},
		{api.MaxCores + 1, api.MaxCores}, {1<<32 + 1, api.MaxCores}, {most, api.MaxCores},
	}
	for _, r := range rows {
		s := New(r.n)
		never(t, s, least, -1, 0, 1, most)
		refuses(t, s, upTo(r.cores+1), api.ErrFull)
		sits(t, s, upTo(r.cores), upTo(r.cores))
		// All cores but one are had again, and so it is the one that is free.
		for core := range r.cores {
			ids := upTo(r.cores)
			ids[core] = -1
			sits(t, s, ids, upTo(r.cores))
			sits(t, s, upTo(r.cores), upTo(r.cores))
		}
	}
}

// P14.1: who never sat has, by id, the least free core, in whatever order the ids come.
func TestFirst(t *testing.T) {
	sits(t, New(3), row{}, row{})
	sits(t, New(3), nil, row{})
	sits(t, New(3), row{8}, row{0})
	sits(t, New(3), row{8, 4}, row{1, 0})
	sits(t, New(3), row{8, 4, 6}, row{2, 0, 1})
	sits(t, New(3), row{4, 6, 8}, row{0, 1, 2})
	sits(t, New(7), row{0, most, -1, 1<<32 + 1, least, 1, 1 << 32}, row{2, 6, 1, 5, 0, 3, 4})
}

// P14.1: whoever sat in the last Sit has that core, also with a less one free, and with others ahead of it by id.
func TestStays(t *testing.T) {
	s := New(4)
	sits(t, s, row{1, 2, 3, 4}, row{0, 1, 2, 3})
	sits(t, s, row{4, 2}, row{3, 1})
	sits(t, s, row{2, 4}, row{1, 3})
	sits(t, s, row{4}, row{3})
	sits(t, s, row{-5, 4, -6, -7}, row{2, 3, 1, 0})
	sits(t, s, row{-5, 9}, row{2, 0})
}

// P14.1: who goes on has its core ahead of whoever had it once, whichever id is less.
func TestStaysAheadOfBack(t *testing.T) {
	for _, ids := range [][2]int{{1, 2}, {2, 1}} {
		old, now := ids[0], ids[1]
		s := New(2)
		sits(t, s, row{old}, row{0})
		sits(t, s, row{now}, row{0})
		sits(t, s, row{old, now}, row{1, 0})
	}
}

// P14.1: who rested comes back to the core that it had, if it is free, also ahead of a less id that never sat.
func TestBack(t *testing.T) {
	s := New(3)
	sits(t, s, row{1, 2, 9}, row{0, 1, 2})
	sits(t, s, row{1}, row{0})
	sits(t, s, row{1, 5, 9}, row{0, 1, 2})
	sits(t, s, row{3}, row{0})
	sits(t, s, row{}, row{})
	sits(t, s, row{9, 4, 5}, row{2, 0, 1})
}

// P14.1: it is the last core that one had to which it comes back, not an earlier one.
func TestBackToTheLast(t *testing.T) {
	s := New(2)
	sits(t, s, row{1, 2}, row{0, 1})
	sits(t, s, row{1, 3}, row{0, 1})
	sits(t, s, row{3}, row{1})
	sits(t, s, row{2, 3}, row{0, 1})
	last(t, s, 2, 0)
	sits(t, s, row{}, row{})
	sits(t, s, row{2}, row{0})
}

// P14.1: of several that rested and had one core it is the least id that has it, whoever had it later; the others have the least free ones.
func TestBackById(t *testing.T) {
	s := New(3)
	sits(t, s, row{7}, row{0})
	sits(t, s, row{5}, row{0})
	sits(t, s, row{6}, row{0})
	sits(t, s, row{}, row{})
	sits(t, s, row{6, 7, 5}, row{1, 2, 0})

	s = New(3)
	sits(t, s, row{5}, row{0})
	sits(t, s, row{6}, row{0})
	sits(t, s, row{}, row{})
	sits(t, s, row{6, 5}, row{1, 0})
}

// P14.1: one that had a core which is not free is one of the others, by id among those that never sat.
func TestOthersById(t *testing.T) {
	s := New(4)
	sits(t, s, row{5}, row{0})
	sits(t, s, row{1}, row{0})
	sits(t, s, row{5, 1, 4, 6}, row{2, 0, 1, 3})

	s = New(4)
	sits(t, s, row{5}, row{0})
	sits(t, s, row{9}, row{0})
	sits(t, s, row{9, 7, 5, 3}, row{0, 3, 2, 1})
}

// P14.1: those that come back have their cores ahead of all that never sat.
func TestBackAheadOfOthers(t *testing.T) {
	s := New(2)
	sits(t, s, row{8}, row{0})
	sits(t, s, nil, row{})
	sits(t, s, row{1, 8}, row{1, 0})
}

// P14.1: a Sit of none is the last Sit, in which nobody sat.
func TestNobody(t *testing.T) {
	s := New(3)
	sits(t, s, row{1}, row{0})
	sits(t, s, row{2}, row{0})
	sits(t, s, row{}, row{})
	sits(t, s, row{1, 2}, row{0, 1})
}

// P14.1: more ids than cores are refused ahead of ids that stand twice, and those wherever they stand.
func TestRefused(t *testing.T) {
	s := New(3)
	refuses(t, s, row{1, 2, 3, 4}, api.ErrFull)
	refuses(t, s, row{1, 1, 1, 1}, api.ErrFull)
	refuses(t, s, make(row, 100000), api.ErrFull)
	for _, ids := range []row{{1, 1}, {0, 0}, {1, 1, 2}, {1, 2, 1}, {2, 1, 1}, {7, 7, 7}, {least, most, least}} {
		refuses(t, s, ids, api.ErrArg)
	}
	refuses(t, New(1), row{1, 1}, api.ErrFull)
	refuses(t, New(2), row{1, 1}, api.ErrArg)
}

// R3: a Sit that is refused is not the last Sit, and nobody sat in it.
func TestRefusedChangesNothing(t *testing.T) {
	s := New(2)
	sits(t, s, row{1, 2}, row{0, 1})
	sits(t, s, row{3, 2}, row{0, 1})
	refuses(t, s, row{4, 4}, api.ErrArg)
	refuses(t, s, row{1, 4, 5}, api.ErrFull)
	never(t, s, 4, 5)
	last(t, s, 1, 0)
	// Were the last Sit another one, 1 would come back to the core of 3.
	sits(t, s, row{1, 3}, row{1, 0})
}

// P14.1: Last is the last core, also of those that rest.
func TestLast(t *testing.T) {
	s := New(2)
	never(t, s, least, -1, 0, 1, 2, most)
	sits(t, s, row{2, 1}, row{1, 0})
	last(t, s, 1, 0)
	last(t, s, 2, 1)
	sits(t, s, row{3}, row{0})
	last(t, s, 1, 0)
	last(t, s, 3, 0)
	sits(t, s, row{1, 3}, row{1, 0})
	last(t, s, 1, 1)
	sits(t, s, row{}, row{})
	last(t, s, 1, 1)
	last(t, s, 2, 1)
	last(t, s, 3, 0)
	never(t, s, least, -1, 0, 1<<32+1, most)
}

// P14.1: whom one forgets never sat, whether in the last Sit or ahead of it.
func TestForget(t *testing.T) {
	s := New(3)
	sits(t, s, row{1, 2, 3}, row{0, 1, 2})
	s.Forget(3)
	never(t, s, 3)
	last(t, s, 2, 1)
	sits(t, s, row{2, 3}, row{1, 0})
	last(t, s, 3, 0)
	// 1 rested, and would come back to core 0.
	s.Forget(1)
	s.Forget(2)
	s.Forget(3)
	never(t, s, 1, 2, 3)
	sits(t, s, row{0, 1}, row{0, 1})
}

// P14.1: to forget one that never sat, or once more, changes nothing.
func TestForgetNobody(t *testing.T) {
	s := New(2)
	sits(t, s, row{1, 2}, row{0, 1})
	for _, id := range []int{least, -1, 0, 3, 1<<32 + 1, most} {
		s.Forget(id)
		s.Forget(id)
		never(t, s, id)
	}
	sits(t, s, row{2, 1}, row{1, 0})
	s.Forget(1)
	s.Forget(1)
	sits(t, s, row{2, 0}, row{1, 0})
}

// R4: the ids are not changed, spare room included, and not kept.
func TestArguments(t *testing.T) {
	s := New(4)
	room := row{9, 3, 7, 11, 12, 13}
	sits(t, s, room[:3], row{2, 0, 1})
	refuses(t, s, room[:5], api.ErrFull)
	if !slices.Equal(room, row{9, 3, 7, 11, 12, 13}) {
		t.Errorf("the ids are now %v", room)
	}
	twice := row{8, 2, 8, 5, 6}
	refuses(t, s, twice[:3], api.ErrArg)
	if !slices.Equal(twice, row{8, 2, 8, 5, 6}) {
		t.Errorf("ids of which one stands twice are now %v", twice)
	}
	clear(room)
	never(t, s, 0)
	sits(t, s, row{9, 3, 7}, row{2, 0, 1})
}

// R4: a list that was answered is nobody else's.
func TestNewMemory(t *testing.T) {
	s := New(4)
	ids := row{9, 3, 7}
	first, _ := s.Sit(ids)
	second, _ := s.Sit(ids)
	for _, l := range [][]int{first, ids} {
		l = l[:cap(l)]
		for i := range l {
			l[i] = 3
		}
	}
	if !slices.Equal(second, row{2, 0, 1}) {
		t.Errorf("two answers share memory: %v", second)
	}
	sits(t, s, row{9, 3, 7}, row{2, 0, 1})
	if !slices.Equal(second, row{2, 0, 1}) {
		t.Errorf("an answer changes with the next Sit: %v", second)
	}
}

// R5: two rows of cores know nothing of each other.
func TestApart(t *testing.T) {
	a, b := New(2), New(2)
	sits(t, a, row{1, 2}, row{0, 1})
	never(t, b, 1, 2)
	sits(t, b, row{2}, row{0})
	sits(t, a, row{2}, row{1})
	b.Forget(2)
	last(t, a, 2, 1)
}

// R1, R7: nil answers zero values, and one that New has not made has no cores.
func TestNoSeats(t *testing.T) {
	var none *Seats
	for _, ids := range []row{nil, {}, {1}, {1, 1}, upTo(65)} {
		refuses(t, none, ids, api.ErrArg)
	}
	none.Forget(1)
	never(t, none, 0, 1)
	unmade := new(Seats)
	sits(t, unmade, nil, row{})
	sits(t, unmade, row{}, row{})
	refuses(t, unmade, row{1}, api.ErrFull)
	refuses(t, unmade, row{1, 1}, api.ErrFull)
	unmade.Forget(1)
	never(t, unmade, 0, 1)
}

// Rule 8: of those that are forgotten nothing is kept.
func TestKeepsNoMore(t *testing.T) {
	s := New(2)
	for id := range 1000 {
		s.Sit(row{id, -1})
		s.Forget(id)
	}
	if len(s.had) != 1 {
		t.Errorf("%d seats are kept, want 1", len(s.had))
	}
}

// plain keeps seats in the chapter's words: all that were had, from the first Sit on.
type plain struct {
	cores int
	// then is for each Sit the core of each id that sat in it.
	then []map[int]int
}

func (p *plain) last(id int) (int, bool) {
	for i := len(p.then) - 1; i >= 0; i-- {
		if core, sat := p.then[i][id]; sat {
			return core, true
		}
	}
	return 0, false
}

func (p *plain) forget(id int) {
	for _, then := range p.then {
		delete(then, id)
	}
}

func (p *plain) sit(ids []int) ([]int, api.Errno) {
	if len(ids) > p.cores {
		return nil, api.ErrFull
	}
	now, taken := make(map[int]int), make(map[int]bool)
	for _, id := range ids {
		now[id] = 0
	}
	if len(now) < len(ids) {
		return nil, api.ErrArg
	}
	clear(now)
	have := func(id, core int) {
		now[id] = core
		taken[core] = true
	}
	rising := slices.Sorted(slices.Values(ids))
	for _, id := range rising {
		if len(p.then) == 0 {
			break
		}
		if core, sat := p.then[len(p.then)-1][id]; sat {
			have(id, core)
		}
	}
	for _, id := range rising {
		if _, sits := now[id]; sits {
			continue
		}
		if core, sat := p.last(id); sat && !taken[core] {
			have(id, core)
		}
	}
	for _, id := range rising {
		if _, sits := now[id]; sits {
			continue
		}
		core := 0
		for taken[core] {
			core++
		}
		have(id, core)
	}
	var cores []int
	for _, id := range ids {
		cores = append(cores, now[id])
	}
	p.then = append(p.then, now)
	return cores, api.OK
}

// P14.1: long rows of calls against the plain way.
func TestAgainstPlain(t *testing.T) {
	random := rand.New(rand.NewSource(14))
	for _, cores := range []int{1, 2, 3, 5, 8, 64} {
		s, p := New(cores), &plain{cores: cores}
		for range 700 {
			known := cores + 1 + random.Intn(cores+3)
			ids := random.Perm(known)[:random.Intn(cores+1)]
			for i := range ids {
				ids[i] -= known / 3
			}
			switch random.Intn(12) {
			case 0:
				ids = random.Perm(known)[:cores+1]
			case 1:
				ids = append(ids, ids...)
			case 2:
				id := random.Intn(2*known) - known
				s.Forget(id)
				p.forget(id)
			}
			want, err := p.sit(ids)
			if err == api.OK {
				sits(t, s, ids, want)
			} else {
				refuses(t, s, ids, err)
			}
			for id := -cores; id < 2*cores+4; id++ {
				if core, sat := p.last(id); sat {
					last(t, s, id, core)
				} else {
					never(t, s, id)
				}
			}
			if t.Failed() {
				t.Fatalf("of %d cores", cores)
			}
		}
	}
}
