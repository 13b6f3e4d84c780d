package pick

import (
	"math"
	"math/big"
	"math/rand"
	"slices"
	"testing"

	"evenhanded/api"
	"evenhanded/jobs"
	"evenhanded/rank"
	"evenhanded/window"
)

const (
	least = math.MinInt
	most  = math.MaxInt
)

// far are numbers at the ends of ints, and some that have the low bits of a small one.
var far = []int{least, least + 1, -1 << 32, -1, 0, 1, 2, 3, 1<<20 - 1, 1 << 20, 1<<32 + 1, 1 << 62, most - 1, most}

// running is a task that has a job.
func running(id, e, p, release, got int) jobs.Task {
	return jobs.Task{ID: id, E: e, P: p, Active: true, Release: release, Got: got}
}

func can(t *testing.T, task jobs.Task, clock int, want, wantEarly bool) {
	t.Helper()
	if ok := Can(task, clock, false); ok != want {
		t.Errorf("Can(%+v, %d, false): %v, want %v", task, clock, ok, want)
	}
	if ok := Can(task, clock, true); ok != wantEarly {
		t.Errorf("Can(%+v, %d, true): %v, want %v", task, clock, ok, wantEarly)
	}
}

func ranked(t *testing.T, task jobs.Task, want rank.Rank) {
	t.Helper()
	if r := Rank(task); r != want {
		t.Errorf("Rank(%+v): %v, want %v", task, r, want)
	}
}

func best(t *testing.T, l []jobs.Task, clock, cores int, early bool, want ...int) {
	t.Helper()
	if ids := Best(l, clock, cores, early); !slices.Equal(ids, want) {
		t.Errorf("Best(%d tasks, %d, %d, %v): %v, want %v", len(l), clock, cores, early, ids, want)
	}
}

// there says in the chapter's words whether the task has a next subtask.
func there(task jobs.Task) bool {
	return task.Active && task.Got < task.E && window.May(task.E, task.P, task.Got+1)
}

// slowCan is Can by numbers that have no end.
func slowCan(task jobs.Task, clock int, early bool) bool {
	if !there(task) {
		return false
	}
	from := big.NewInt(int64(task.Release))
	if !early {
		from.Add(from, big.NewInt(int64(window.Release(task.E, task.P, task.Got+1))))
	}
	return from.Cmp(big.NewInt(int64(clock))) <= 0
}

// slowRank is Rank in the chapter's words.
func slowRank(task jobs.Task) rank.Rank {
	if !there(task) {
		return rank.Rank{ID: task.ID}
	}
	return rank.Of(task.E, task.P, task.Got+1, task.Release, task.ID)
}

// slowBest is Best by putting all in order.
func slowBest(l []jobs.Task, clock, cores int, early bool) []int {
	seen := map[int]int{}
	var ranks []rank.Rank
	for _, task := range l {
		seen[task.ID]++
		if seen[task.ID] == 1 && slowCan(task, clock, early) {
			ranks = append(ranks, slowRank(task))
		}
	}
	var ids []int
	for i, r := range rank.Sort(ranks) {
		if i < cores {
			ids = append(ids, r.ID)
		}
	}
	return ids
}

// P13.1: the chapter's example.
func TestExample(t *testing.T) {
	l := []jobs.Task{running(1, 1, 5, 0, 0), running(2, 1, 4, 0, 0)}
	best(t, l, 0, 1, false, 2)
	slices.Reverse(l)
	best(t, l, 0, 1, false, 2)
}

// P13.1: each quantum of a job may be from its own window's release on, or, if early, from the job's.
func TestCanByWindow(t *testing.T) {
	// The windows of 8 in 11 begin at these clocks.
	for got, begins := range []int{0, 1, 2, 4, 5, 6, 8, 9} {
		task := running(1, 8, 11, 100, got)
		for clock := 97; clock < 115; clock++ {
			can(t, task, clock, clock >= 100+begins, clock >= 100)
		}
	}
}

// P13.1: a clock beyond the window, or beyond the job's deadline, stops nothing: only Release is asked.
func TestCanLate(t *testing.T) {
	can(t, running(1, 2, 4, 10, 0), 14, true, true)
	can(t, running(1, 2, 4, 10, 1), 1<<40, true, true)
	can(t, running(1, 2, 4, 10, 1), most, true, true)
}

// P13.1: there is no next subtask of a task that is not Active, of a Got of E or more, and where May says no.
func TestCanNone(t *testing.T) {
	idle := running(1, 2, 4, 0, 0)
	idle.Active = false
	for _, task := range []jobs.Task{
		{},
		idle,
		running(1, 2, 4, 0, 2),
		running(1, 2, 4, 0, 3),
		running(1, 2, 4, 0, most),
		running(1, 2, 4, 0, -1),
		running(1, 2, 4, 0, -2),
		running(1, 2, 4, 0, least),
		running(1, 2, 4, 0, -1<<32),
		running(1, 0, 4, 0, 0),
		running(1, 0, 4, 0, -1),
		running(1, -1, 4, 0, -2),
		running(1, 5, 4, 0, 0),
		running(1, 5, 4, 0, 4),
		running(1, 1, 0, 0, 0),
		running(1, 1, -1, 0, 0),
		running(1, 1, api.MaxPeriod+1, 0, 0),
		running(1, 1, most, 0, 0),
		running(1, most, most, 0, most-1),
		running(1, most, most, 0, most),
		running(1, least, least, 0, least),
		running(1, 1<<32+2, 4, 0, 0),
	} {
		can(t, task, 5, false, false)
		can(t, task, most, false, false)
		task.ID = 7
		ranked(t, task, rank.Rank{ID: 7})
	}
}

// P13.1: the greatest period is one like any other.
func TestCanMaxPeriod(t *testing.T) {
	const p = api.MaxPeriod
	can(t, running(1, 1, p, 0, 0), 0, true, true)
	can(t, running(1, p, p, 0, p-1), p-2, false, true)
	can(t, running(1, p, p, 0, p-1), p-1, true, true)
	can(t, running(1, p, p, 0, p), p, false, false)
	ranked(t, running(4, p, p, 3, p-1), rank.Rank{Deadline: p + 3, ID: 4})
}

// P13.1: who leaves, waits, is sporadic or done already is chosen as any other.
func TestOtherFields(t *testing.T) {
	plain := running(6, 2, 5, 10, 1)
	for _, change := range []func(*jobs.Task){
		func(t *jobs.Task) { t.Sporadic = true },
		func(t *jobs.Task) { t.Leaving = true },
		func(t *jobs.Task) { t.Waiting = true },
		func(t *jobs.Task) { t.Done = true },
		func(t *jobs.Task) { t.Count = most },
	} {
		task := plain
		change(&task)
		can(t, task, 9, false, false)
		can(t, task, 11, false, true)
		can(t, task, 12, true, true)
		ranked(t, task, rank.Rank{Deadline: 15, ID: 6})
		best(t, []jobs.Task{running(7, 2, 5, 10, 1), task}, 12, 2, false, 6, 7)
	}
}

// P13.1, R6: clocks and releases may be any, and no sum of them runs over.
func TestCanFar(t *testing.T) {
	can(t, running(1, 1, 1, least, 0), most, true, true)
	can(t, running(1, 2, 4, least, 1), most, true, true)
	can(t, running(1, 2, 4, least, 1), least, false, true)
	can(t, running(1, 2, 4, least, 1), least+1, false, true)
	can(t, running(1, 2, 4, least, 1), least+2, true, true)
	can(t, running(1, 2, 4, most, 0), most, true, true)
	can(t, running(1, 2, 4, most, 1), most, false, true)
	can(t, running(1, 2, 4, most-1, 1), most, false, true)
	can(t, running(1, 2, 4, most-2, 1), most, true, true)
	can(t, running(1, 2, 4, most, 0), least, false, false)
	can(t, running(1, 2, 4, most, 1), most-1, false, false)
	can(t, running(1, 2, 4, 0, 1), least, false, false)
	can(t, running(1, 2, 4, 5, 1), 1<<32, true, true)
}

// P13.1, R6: all pairs of far numbers, held against sums that have no end.
func TestCanAllFar(t *testing.T) {
	for _, release := range far {
		for _, clock := range far {
			for _, got := range far {
				for _, early := range []bool{false, true} {
					task := running(1, 3, 5, release, got)
					if ok := Can(task, clock, early); ok != slowCan(task, clock, early) {
						t.Errorf("Can(%+v, %d, %v): %v", task, clock, early, ok)
					}
				}
			}
		}
	}
}

// P13.1: Rank is that of the next subtask, from the job's release on.
func TestRank(t *testing.T) {
	ranked(t, running(7, 8, 11, 100, 2), rank.Rank{Deadline: 105, Bit: 1, Group: 108, ID: 7})
	ranked(t, running(7, 8, 11, 100, 7), rank.Rank{Deadline: 111, Group: 111, ID: 7})
	ranked(t, running(7, 8, 11, -100, 0), rank.Rank{Deadline: -98, Bit: 1, Group: -96, ID: 7})
	ranked(t, running(-3, 2, 5, 10, 0), rank.Rank{Deadline: 13, Bit: 1, ID: -3})
	ranked(t, running(-3, 2, 5, 10, 1), rank.Rank{Deadline: 15, ID: -3})
	ranked(t, running(5, 1, 1, 0, 0), rank.Rank{Deadline: 1, ID: 5})
	for e := 1; e <= 12; e++ {
		for p := 1; p <= 12; p++ {
			for got := -1; got <= e+1; got++ {
				task := running(e, e, p, 50, got)
				ranked(t, task, slowRank(task))
			}
		}
	}
}

// P13.1: where there is no next subtask, the id is all of the rank.
func TestRankNone(t *testing.T) {
	for _, id := range far {
		ranked(t, jobs.Task{ID: id}, rank.Rank{ID: id})
		ranked(t, running(id, 2, 4, 10, 2), rank.Rank{ID: id})
		ranked(t, running(id, 2, 4, 10, -1), rank.Rank{ID: id})
		ranked(t, running(id, 5, 4, 10, 0), rank.Rank{ID: id})
		idle := running(id, 2, 4, 10, 0)
		idle.Active = false
		ranked(t, idle, rank.Rank{ID: id})
	}
}

// P13.1: each question of rank.Less tells who is ahead.
func TestBestOrder(t *testing.T) {
	l := []jobs.Task{
		running(1, 3, 4, 0, 0),  // deadline 2, bit 1, group 4
		running(2, 1, 2, 0, 0),  // deadline 2, no bit
		running(3, 4, 5, 0, 0),  // deadline 2, bit 1, group 5
		running(4, 1, 1, 0, 0),  // deadline 1
		running(0, 2, 4, 0, 0),  // deadline 2, no bit
		running(9, 2, 3, 0, 0),  // deadline 2, bit 1, group 3
		running(8, 2, 3, 0, 0),  // the same
		running(-5, 1, 9, 0, 0), // deadline 9
	}
	order := []int{4, 3, 1, 8, 9, 0, 2, -5}
	for range l {
		for cores := range len(l) + 3 {
			best(t, l, 0, cores, false, order[:min(cores, len(order))]...)
		}
		l = append(l[1:], l[0])
	}
}

// P13.1: no cores, fewer than none, and as many as there can be.
func TestBestCores(t *testing.T) {
	l := []jobs.Task{running(3, 1, 3, 0, 0), running(1, 1, 4, 0, 0), running(2, 1, 5, 0, 0)}
	for _, cores := range far {
		best(t, l, 0, cores, false, []int{3, 1, 2}[:max(0, min(cores, 3))]...)
		best(t, nil, 0, cores, true)
		best(t, []jobs.Task{}, 0, cores, true)
	}
}

// P13.1: those that can not yet, or not any more, are left out, however urgent.
func TestBestLeavesOut(t *testing.T) {
	idle := running(4, 1, 1, 0, 0)
	idle.Active = false
	l := []jobs.Task{
		running(1, 1, 1, 1, 0),
		running(2, 2, 4, 0, 1),
		running(3, 1, 9, 0, 0),
		idle,
		running(5, 1, 1, 0, 1),
		running(6, 2, 1, 0, 0),
	}
	best(t, l, -1, 9, true)
	best(t, l, 0, 9, false, 3)
	best(t, l, 0, 9, true, 2, 3)
	best(t, l, 1, 9, false, 1, 3)
	best(t, l, 2, 9, false, 1, 2, 3)
	best(t, l, most, 2, false, 1, 2)
}

// P13.1: of an id that stands more than once the first alone counts, whether that one can or not.
func TestBestTwice(t *testing.T) {
	soon, late := running(7, 1, 2, 0, 0), running(7, 1, 8, 0, 0)
	other := running(8, 1, 4, 0, 0)
	off := running(7, 1, 2, 0, 1)
	best(t, []jobs.Task{soon, other, late}, 0, 9, false, 7, 8)
	best(t, []jobs.Task{late, other, soon}, 0, 9, false, 8, 7)
	best(t, []jobs.Task{late, soon, soon, other}, 0, 1, false, 8)
	best(t, []jobs.Task{off, soon, other, late}, 0, 9, false, 8)
	best(t, []jobs.Task{{ID: 7}, soon, soon}, 0, 9, true)
	best(t, []jobs.Task{running(7, 1, 2, 50, 0), soon}, 0, 3, true)
	best(t, []jobs.Task{soon, soon, soon}, 0, 3, true, 7)
	// A task that is zero has the id 0.
	best(t, []jobs.Task{{}, running(0, 1, 2, 0, 0)}, 0, 3, true)
}

// P13.1, R6: ids may be any; those that share their low bits are others.
func TestBestFarIDs(t *testing.T) {
	var l []jobs.Task
	for _, id := range far {
		l = append(l, running(id, 1, 2, 0, 0))
	}
	slices.Reverse(l)
	best(t, l, 0, most, false, far...)
	best(t, l, 0, 2, false, least, least+1)
}

// P13.1: a list longer than a heap has slots is chosen from as a short one.
func TestBestLong(t *testing.T) {
	draw := rand.New(rand.NewSource(13))
	for _, n := range []int{api.MaxHeap - 1, api.MaxHeap, api.MaxHeap + 1, 2*api.MaxHeap + 5} {
		l := make([]jobs.Task, n)
		for i := range l {
			p := 1 + draw.Intn(50)
			l[i] = running(i, 1+draw.Intn(p), p, draw.Intn(100), 0)
		}
		draw.Shuffle(n, func(a, b int) { l[a], l[b] = l[b], l[a] })
		for _, cores := range []int{1, 64, n - 1, most} {
			best(t, l, 60, cores, false, slowBest(l, 60, cores, false)...)
		}
		best(t, l, 100, most, true, slowBest(l, 100, most, true)...)
	}
}

// P13.1: the last of a long list may be the first of all, and the one before the heap's end too.
func TestBestLongEnds(t *testing.T) {
	const n = 2*api.MaxHeap + 2
	l := make([]jobs.Task, n)
	for i := range l {
		l[i] = running(i, 1, 100, 0, 0)
	}
	for _, i := range []int{0, api.MaxHeap - 1, api.MaxHeap, 2*api.MaxHeap - 1, 2 * api.MaxHeap, n - 1} {
		l[i].P = 2
	}
	best(t, l, 0, 8, false, 0, api.MaxHeap-1, api.MaxHeap, 2*api.MaxHeap-1, 2*api.MaxHeap, n-1, 1, 2)
}

// sample draws a list of tasks, some of which stand twice or have no next subtask.
func sample(draw *rand.Rand) []jobs.Task {
	l := make([]jobs.Task, draw.Intn(12))
	for i := range l {
		p := 1 + draw.Intn(7)
		l[i] = running(draw.Intn(14)-2, 1+draw.Intn(p+1), p, draw.Intn(8)-2, draw.Intn(5)-1)
		l[i].Active = draw.Intn(8) != 0
		l[i].Done = draw.Intn(4) == 0
	}
	return l
}

// P13.1: long rows of lists, held against putting all in order.
func TestBestModel(t *testing.T) {
	draw := rand.New(rand.NewSource(1))
	for range 20000 {
		l, clock, cores, early := sample(draw), draw.Intn(12)-3, draw.Intn(9)-2, draw.Intn(2) == 0
		kept := slices.Clone(l)
		ids := Best(l, clock, cores, early)
		if want := slowBest(l, clock, cores, early); !slices.Equal(ids, want) {
			t.Fatalf("Best(%+v, %d, %d, %v): %v, want %v", l, clock, cores, early, ids, want)
		}
		if !slices.Equal(l, kept) {
			t.Fatalf("Best changed its list from %+v to %+v", kept, l)
		}
		for _, task := range l {
			if ok := Can(task, clock, early); ok != slowCan(task, clock, early) {
				t.Fatalf("Can(%+v, %d, %v): %v", task, clock, early, ok)
			}
			ranked(t, task, slowRank(task))
		}
	}
}

// R4: the list is not changed, its spare room included, and the answer is new memory each time.
func TestBestApart(t *testing.T) {
	room := []jobs.Task{running(2, 1, 3, 0, 0), running(2, 1, 1, 0, 0), running(1, 1, 2, 0, 0), running(9, 1, 1, 0, 0), running(8, 1, 1, 0, 0)}
	kept := slices.Clone(room)
	first := Best(room[:3], 0, 9, false)
	if want := []int{1, 2}; !slices.Equal(first, want) {
		t.Errorf("Best of a part: %v, want %v", first, want)
	}
	all := first[:cap(first)]
	for i := range all {
		all[i] = -1
	}
	best(t, room[:3], 0, 9, false, 1, 2)
	if !slices.Equal(room, kept) {
		t.Errorf("the list is %+v now, was %+v", room, kept)
	}
}

// R5: what was asked before is not to be seen in an answer.
func TestBestAgain(t *testing.T) {
	draw := rand.New(rand.NewSource(2))
	lists := make([][]jobs.Task, 50)
	answers := make([][]int, len(lists))
	for i := range lists {
		lists[i] = sample(draw)
		answers[i] = Best(lists[i], 3, 3, false)
	}
	for i := len(lists) - 1; i >= 0; i-- {
		best(t, lists[i], 3, 3, false, answers[i]...)
	}
}

// P13.1, R6: where a deadline is later than any int, the rank is what rank.Of says of it.
func TestFarDeadline(t *testing.T) {
	for _, release := range []int{most, most - 1, most - 3, least, least + 1} {
		task := running(5, 3, 4, release, 0)
		ranked(t, task, rank.Of(3, 4, 1, release, 5))
		l := []jobs.Task{running(6, 1, 2, 0, 0), task}
		best(t, l, most, 2, true, slowBest(l, most, 2, true)...)
	}
}

func BenchmarkBest(b *testing.B) {
	l := make([]jobs.Task, api.MaxTasks)
	for i := range l {
		l[i] = running(i, 1, 64+i%1000, 0, 0)
	}
	b.ResetTimer()
	for range b.N {
		Best(l, 0, api.MaxCores, false)
	}
}
