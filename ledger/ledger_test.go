package ledger

import (
	"math"
	"math/big"
	"math/rand"
	"testing"

	"evenhanded/api"
)

const (
	least = math.MinInt
	most  = math.MaxInt
)

func can(t *testing.T, l *Ledger, e, p int, want api.Errno) {
	t.Helper()
	if err := l.Can(e, p); err != want {
		t.Errorf("Can(%d, %d): %v, want %v", e, p, err, want)
	}
}

func add(t *testing.T, l *Ledger, id, e, p int, want api.Errno) {
	t.Helper()
	if err := l.Add(id, e, p); err != want {
		t.Errorf("Add(%d, %d, %d): %v, want %v", id, e, p, err, want)
	}
}

func drop(t *testing.T, l *Ledger, id int, want bool) {
	t.Helper()
	if ok := l.Drop(id); ok != want {
		t.Errorf("Drop(%d): %v, want %v", id, ok, want)
	}
}

// holds asks for all that a ledger tells of its tasks.
func holds(t *testing.T, l *Ledger, n, d int64, lcm, size int) {
	t.Helper()
	if sum := l.Sum(); sum != (api.Rat{N: n, D: d}) {
		t.Errorf("Sum: %v, want %d by %d", sum, n, d)
	}
	if m := l.Lcm(); m != lcm {
		t.Errorf("Lcm: %d, want %d", m, lcm)
	}
	if k := l.Len(); k != size {
		t.Errorf("Len: %d, want %d", k, size)
	}
}

func empty(t *testing.T, l *Ledger) {
	t.Helper()
	holds(t, l, 0, 1, 1, 0)
}

// P8.1: the chapter's example.
func TestExample(t *testing.T) {
	l := New(1)
	add(t, l, 1, 1, 3, api.OK)
	holds(t, l, 1, 3, 3, 1)
	add(t, l, 2, 1, 3, api.OK)
	holds(t, l, 2, 3, 3, 2)
	add(t, l, 3, 1, 3, api.OK)
	holds(t, l, 1, 1, 3, 3)
	can(t, l, 1, 3, api.ErrWeight)
	add(t, l, 4, 1, 3, api.ErrWeight)
	can(t, l, 1, api.MaxPeriod, api.ErrWeight)
	holds(t, l, 1, 1, 3, 3)
}

// P8.1: a new ledger has nothing in it: Sum 0, Lcm 1.
func TestNew(t *testing.T) {
	for _, cores := range []int{least, -1, 0, 1, 2, api.MaxCores, api.MaxCores + 1, most} {
		l := New(cores)
		empty(t, l)
		for _, id := range []int{least, -1, 0, 1, most} {
			drop(t, l, id, false)
		}
		empty(t, l)
	}
}

// P8.1: cores below 1 are 1, those above MaxCores are MaxCores; so many whole weights join, and no part of one more.
func TestCores(t *testing.T) {
	for cores, want := range map[int]int{
		least: 1, -5: 1, -1: 1, 0: 1, 1: 1, 2: 2, 3: 3,
		api.MaxCores - 1: api.MaxCores - 1, api.MaxCores: api.MaxCores, api.MaxCores + 1: api.MaxCores, 1 << 33: api.MaxCores, most: api.MaxCores,
	} {
		l := New(cores)
		for id := range want {
			can(t, l, 7, 7, api.OK)
			add(t, l, id, 7, 7, api.OK)
		}
		holds(t, l, int64(want), 1, 7, want)
		for _, p := range []int{1, 7, api.MaxPeriod} {
			can(t, l, 1, p, api.ErrWeight)
			add(t, l, want, 1, p, api.ErrWeight)
		}
		holds(t, l, int64(want), 1, 7, want)
	}
}

// P8.1: e is from 1 to p, p from 1 to MaxPeriod, at the edges and far from them; what is refused changes nothing (R3).
func TestArguments(t *testing.T) {
	wrong := []task{
		{0, 1}, {0, 0}, {1, 0}, {-1, 3}, {-1, -1}, {1, -1}, {2, 1}, {6, 5}, {0, 5}, {-3, -2},
		{1, api.MaxPeriod + 1}, {api.MaxPeriod, api.MaxPeriod + 1}, {api.MaxPeriod + 1, api.MaxPeriod + 1}, {api.MaxPeriod + 1, api.MaxPeriod}, {0, api.MaxPeriod},
		{least, 1}, {most, 1}, {1, least}, {1, most}, {most, most}, {least, least}, {least, most}, {most, least},
		{1 << 32, 1 << 32}, {1, 1<<32 + 1}, {1<<32 + 1, 2}, {-1<<32 + 1, 2},
	}
	l := New(2)
	add(t, l, 9, 2, 3, api.OK)
	for _, w := range wrong {
		can(t, l, w.e, w.p, api.ErrArg)
		add(t, l, 1, w.e, w.p, api.ErrArg)
		add(t, l, 9, w.e, w.p, api.ErrArg) // ahead of ErrThere (R6)
		holds(t, l, 2, 3, 3, 1)
	}
	for _, r := range []task{{1, 1}, {1, 2}, {2, 2}, {1, api.MaxPeriod}, {api.MaxPeriod, api.MaxPeriod}, {api.MaxPeriod - 1, api.MaxPeriod}} {
		can(t, l, r.e, r.p, api.OK)
		add(t, l, 1, r.e, r.p, api.OK)
		drop(t, l, 1, true)
		holds(t, l, 2, 3, 3, 1)
	}
}

// P8.1: the errors in their order: ErrArg, ErrThere, ErrLcm, ErrWeight (R6).
func TestErrorsInOrder(t *testing.T) {
	l := New(1)
	add(t, l, 1, 1<<19, 1<<19, api.OK)
	for id, want := range map[int]api.Errno{1: api.ErrThere, 2: api.ErrLcm} {
		add(t, l, id, 33, 33, want) // above the multiple and above the cores
	}
	can(t, l, 33, 33, api.ErrLcm)
	add(t, l, 1, 1, 2, api.ErrThere) // above the cores
	add(t, l, 2, 1, 2, api.ErrWeight)
	add(t, l, 1, 0, 33, api.ErrArg)
	can(t, l, 34, 33, api.ErrArg)
	add(t, l, 2, 1, 1<<20, api.ErrArg)
	holds(t, l, 1, 1, 1<<19, 1)
}

// P8.1: an id that is here may not come again, with the same task or another; once it is gone it may.
func TestThere(t *testing.T) {
	l := New(1)
	for _, id := range []int{least, -1, 0, 1, most} {
		add(t, l, id, 1, 10, api.OK)
		add(t, l, id, 1, 10, api.ErrThere)
		add(t, l, id, 1, 5, api.ErrThere)
		can(t, l, 1, 5, api.OK)
	}
	holds(t, l, 1, 2, 10, 5)
	for k, id := range []int{0, least, most, -1, 1} {
		drop(t, l, id, true)
		drop(t, l, id, false)
		if n := l.Len(); n != 4-k {
			t.Errorf("Len: %d, want %d", n, 4-k)
		}
	}
	empty(t, l)
	add(t, l, 0, 3, 4, api.OK)
	holds(t, l, 3, 4, 4, 1)
}

// P8.1: at MaxLcm all is well, just above it ErrLcm; what is refused changes nothing (R3).
func TestLcm(t *testing.T) {
	l := New(64)
	add(t, l, 1, 1, 1<<19, api.OK)
	add(t, l, 2, 1, 32, api.OK)
	holds(t, l, 1<<14+1, 1<<19, 1<<19, 2)
	can(t, l, 1, 33, api.ErrLcm) // 33 * 2^19 is above 2^24, 31 * 2^19 is not
	add(t, l, 3, 1, 33, api.ErrLcm)
	holds(t, l, 1<<14+1, 1<<19, 1<<19, 2)
	can(t, l, 1, 31, api.OK)
	add(t, l, 3, 31, 31, api.OK)
	holds(t, l, 1<<19+1<<14+1, 1<<19, 31<<19, 3)
	can(t, l, 1, 2, api.OK)
	can(t, l, 1, 62, api.OK)
	can(t, l, 1, 3, api.ErrLcm)
	can(t, l, 1, api.MaxPeriod, api.ErrLcm)
	drop(t, l, 3, true)
	holds(t, l, 1<<14+1, 1<<19, 1<<19, 2)
	can(t, l, 1, 3, api.OK)
}

// P8.1: the multiples round MaxLcm. It is none itself: it is 2 to the 24th, and no period has more than 19 twos in it.
func TestLcmAtLimit(t *testing.T) {
	for _, p := range []int{1<<12 - 1, 1 << 12, 1<<12 + 1, 4095 * 256, 1<<20 - 1} {
		for q := 1; q <= 1<<14; q++ {
			l := New(2)
			add(t, l, 1, 1, p, api.OK)
			want, lcm := api.OK, p/plainGcd(p, q)*q
			if lcm > api.MaxLcm {
				want, lcm = api.ErrLcm, p
			}
			add(t, l, 2, 1, q, want)
			if m := l.Lcm(); m != lcm {
				t.Fatalf("%d and %d: %d, want %d", p, q, m, lcm)
			}
		}
	}
	l := New(1)
	add(t, l, 1, 1, 1<<12-1, api.OK)
	add(t, l, 2, 1, 1<<12+1, api.OK)
	if m := l.Lcm(); m != api.MaxLcm-1 {
		t.Errorf("%d, want one below MaxLcm", m)
	}
	can(t, l, 1, 2, api.ErrLcm)
	can(t, l, 1, 3, api.OK)
	l = New(1)
	add(t, l, 1, 1, 97*257, api.OK)
	add(t, l, 2, 1, 673, api.ErrLcm) // one above MaxLcm
	holds(t, l, 1, 97*257, 97*257, 1)
}

// P8.1: of several tasks with one period the multiple keeps it till the last of them goes.
func TestLcmAfterDrop(t *testing.T) {
	l := New(3)
	for id, p := range []int{6, 10, 15, 10, 4} {
		add(t, l, id, 1, p, api.OK)
	}
	lcm := func(want int) {
		t.Helper()
		if m := l.Lcm(); m != want {
			t.Errorf("Lcm: %d, want %d", m, want)
		}
	}
	lcm(60)
	drop(t, l, 4, true)
	lcm(30)
	drop(t, l, 1, true)
	lcm(30)
	drop(t, l, 2, true)
	lcm(30)
	drop(t, l, 3, true)
	lcm(6)
	add(t, l, 5, 1, 6, api.OK)
	drop(t, l, 0, true)
	lcm(6)
	drop(t, l, 5, true)
	empty(t, l)
}

// P8.1: sums are exact: a hair too much is too much, just as much is not.
func TestWeight(t *testing.T) {
	l := New(2)
	add(t, l, 1, 5, 5, api.OK)
	add(t, l, 2, 999, 1000, api.OK)
	holds(t, l, 1999, 1000, 1000, 2)
	can(t, l, 1, 999, api.ErrWeight)
	can(t, l, 1, 1000, api.OK)
	can(t, l, 1, 1001, api.OK)
	can(t, l, 2, 1000, api.ErrWeight)
	can(t, l, 2, 2000, api.OK)
	can(t, l, 3, 2000, api.ErrWeight)
	add(t, l, 3, 2, 1000, api.ErrWeight)
	holds(t, l, 1999, 1000, 1000, 2)
	add(t, l, 3, 1, 1000, api.OK)
	holds(t, l, 2, 1, 1000, 3)
}

// P8.1: the smallest hair: MaxCores cores that are full but for it, and full.
func TestHair(t *testing.T) {
	l := New(api.MaxCores)
	for id := range api.MaxCores - 1 {
		add(t, l, id, 1, 1, api.OK)
	}
	// Both come to 1 less 2 by 4095*4097, which is one below MaxLcm; 1 by 4095 in the place of the second fills the core.
	add(t, l, 100, 4094, 4095, api.OK)
	add(t, l, 101, 1, 4097, api.OK)
	can(t, l, 1, 4095, api.ErrWeight)
	add(t, l, 102, 1, 4095, api.ErrWeight)
	holds(t, l, api.MaxCores*16777215-2, 16777215, 16777215, api.MaxCores+1)
	drop(t, l, 101, true)
	add(t, l, 101, 1, 4095, api.OK)
	holds(t, l, api.MaxCores, 1, 4095, api.MaxCores+1)
	drop(t, l, 101, true)
	holds(t, l, (api.MaxCores-1)*4095+4094, 4095, 4095, api.MaxCores)
}

// P8.1: cores full of small weights: it is the weight that ends it, no number of tasks.
func TestMany(t *testing.T) {
	const p = 100_000
	l := New(2)
	for id := range 2 * p {
		if err := l.Add(id, 1, p); err != api.OK {
			t.Fatalf("the task %d: %v", id, err)
		}
	}
	holds(t, l, 2, 1, p, 2*p)
	can(t, l, 1, p, api.ErrWeight)
	for id := range 2 * p {
		if !l.Drop(2*p - 1 - id) {
			t.Fatalf("the task %d is not there", id)
		}
	}
	empty(t, l)
}

// P8.1: all divisors of a number are periods at once.
func TestManyPeriods(t *testing.T) {
	const all = 14_414_400
	var periods []int
	for p := 1; p <= api.MaxPeriod; p++ {
		if all%p == 0 {
			periods = append(periods, p)
		}
	}
	l, sum := New(64), new(big.Rat)
	for id, p := range periods {
		add(t, l, id, 1, p, api.OK)
		sum.Add(sum, big.NewRat(1, int64(p)))
	}
	holds(t, l, sum.Num().Int64(), sum.Denom().Int64(), all, len(periods))
	can(t, l, 1, 19, api.ErrLcm)
	for id, p := range periods {
		drop(t, l, id, true)
		sum.Sub(sum, big.NewRat(1, int64(p)))
		if s := l.Sum(); sum.Cmp(big.NewRat(s.N, s.D)) != 0 || l.Lcm() != plainLcm(periods[id+1:]) {
			t.Fatalf("after %d: %v, %d", p, s, l.Lcm())
		}
	}
	empty(t, l)
}

func plainGcd(a, b int) int {
	for b != 0 {
		a, b = b, a%b
	}
	return a
}

func plainLcm(l []int) int {
	m := 1
	for _, p := range l {
		m = m / plainGcd(m, p) * p
	}
	return m
}

// plain reckons all anew from its tasks, with numbers that have no end.
type plain struct {
	cores int
	tasks map[int]task
}

func (p plain) periods() []int {
	var l []int
	for _, a := range p.tasks {
		l = append(l, a.p)
	}
	return l
}

func (p plain) sum() *big.Rat {
	s := new(big.Rat)
	for _, a := range p.tasks {
		s.Add(s, big.NewRat(int64(a.e), int64(a.p)))
	}
	return s
}

func (p plain) can(a task) api.Errno {
	if a.e < 1 || a.e > a.p || a.p < 1 || a.p > api.MaxPeriod {
		return api.ErrArg
	}
	if plainLcm(append(p.periods(), a.p)) > api.MaxLcm {
		return api.ErrLcm
	}
	if s := p.sum(); s.Add(s, big.NewRat(int64(a.e), int64(a.p))).Cmp(big.NewRat(int64(p.cores), 1)) > 0 {
		return api.ErrWeight
	}
	return api.OK
}

func (p plain) add(id int, a task) api.Errno {
	err := p.can(a)
	if _, there := p.tasks[id]; there && err != api.ErrArg {
		return api.ErrThere
	}
	if err == api.OK {
		p.tasks[id] = a
	}
	return err
}

func (p plain) drop(id int) bool {
	_, there := p.tasks[id]
	delete(p.tasks, id)
	return there
}

// drawn is a task of periods that go together well, or not, and sometimes one that may not be.
func drawn(r *rand.Rand) task {
	p := []int{1, 2, 3, 4, 5, 6, 8, 12, 16, 30, 31, 60, 64, 97, 1000, 1 << 12, 4095, 4097, 1 << 19, 3 << 18, api.MaxPeriod}[r.Intn(21)]
	switch r.Intn(8) {
	case 0:
		return task{r.Intn(p+3) - 1, p + r.Intn(2)}
	case 1, 2:
		return task{1 + r.Intn(p), p}
	}
	return task{1 + r.Intn(1+p/5), p}
}

// P8.1: long rows of calls answer what is reckoned anew each time.
func TestAgainstPlain(t *testing.T) {
	seen := map[api.Errno]int{}
	for seed := range 300 {
		r := rand.New(rand.NewSource(int64(seed)))
		cores := 1 + r.Intn(4)
		l, p := New(cores), plain{cores, map[int]task{}}
		kinds := 2 + r.Intn(30)
		for range 200 {
			id, a := r.Intn(kinds)-kinds/2, drawn(r)
			if r.Intn(3) == 0 {
				drop(t, l, id, p.drop(id))
			} else {
				can(t, l, a.e, a.p, p.can(a))
				want := p.add(id, a)
				add(t, l, id, a.e, a.p, want)
				seen[want]++
			}
			sum := p.sum()
			holds(t, l, sum.Num().Int64(), sum.Denom().Int64(), plainLcm(p.periods()), len(p.tasks))
			if t.Failed() {
				t.Fatalf("seed %d", seed)
			}
		}
	}
	for _, err := range []api.Errno{api.OK, api.ErrArg, api.ErrThere, api.ErrLcm, api.ErrWeight} {
		if seen[err] < 100 {
			t.Errorf("%v was answered %d times", err, seen[err])
		}
	}
}

// P8.1: Can changes nothing, whatever it answers.
func TestCanChangesNothing(t *testing.T) {
	l := New(1)
	can(t, l, 1, 7, api.OK)
	empty(t, l)
	add(t, l, 1, 1, 2, api.OK)
	for range 3 {
		can(t, l, 1, 2, api.OK)
		can(t, l, 2, 3, api.ErrWeight)
		can(t, l, 0, 3, api.ErrArg)
		holds(t, l, 1, 2, 2, 1)
	}
}

// P8.1: what is gone leaves nothing behind.
func TestNothingIsLeft(t *testing.T) {
	l := New(1)
	for p := 1; p <= 3000; p++ {
		add(t, l, p, p, p, api.OK)
		add(t, l, -p, 1, p, api.ErrWeight)
		holds(t, l, 1, 1, p, 1)
		drop(t, l, p, true)
		empty(t, l)
	}
	if len(l.tasks) != 0 || len(l.counts) != 0 {
		t.Errorf("%d tasks, %d periods are left", len(l.tasks), len(l.counts))
	}
}

// R5: ledgers know nothing of each other.
func TestTwo(t *testing.T) {
	a, b := New(1), New(2)
	add(t, a, 1, 1, 1, api.OK)
	empty(t, b)
	add(t, b, 1, 1, 3, api.OK)
	drop(t, a, 1, true)
	empty(t, a)
	holds(t, b, 1, 3, 3, 1)
}

// R7: a nil ledger answers zero values, and ErrArg.
func TestNil(t *testing.T) {
	var l *Ledger
	for _, n := range []int{least, -1, 0, 1, most} {
		can(t, l, n, n, api.ErrArg)
		add(t, l, n, 1, 1, api.ErrArg)
		drop(t, l, n, false)
		holds(t, l, 0, 0, 0, 0)
	}
	can(t, l, 1, 2, api.ErrArg)
}

// R1: a ledger that New did not make is one of a core.
func TestUnmade(t *testing.T) {
	var l Ledger
	empty(t, &l)
	drop(t, &l, 1, false)
	add(t, &l, 1, 1, 2, api.OK)
	can(t, &l, 2, 3, api.ErrWeight)
	add(t, &l, 2, 1, 2, api.OK)
	holds(t, &l, 1, 1, 2, 2)
	drop(t, &l, 1, true)
	drop(t, &l, 2, true)
	empty(t, &l)
}

func BenchmarkJoinAndLeave(b *testing.B) {
	l := New(api.MaxCores)
	for id := range api.MaxTasks {
		l.Add(id, 1, 1000+id%2*1000)
	}
	for i := range b.N {
		id := i % api.MaxTasks
		l.Drop(id)
		l.Add(id, 1, 1000+id%2*1000)
	}
}
