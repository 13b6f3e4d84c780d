package quantum

import (
	"math"
	"math/rand"
	"slices"
	"testing"

	"evenhanded/api"
	"evenhanded/jobs"
	"evenhanded/pick"
	"evenhanded/rank"
	"evenhanded/seat"
)

const (
	least = math.MinInt
	most  = math.MaxInt
)

// weight is e in p.
type weight struct{ e, p int }

// of is jobs of these weights, with ids from 1 on.
func of(t *testing.T, set ...weight) *jobs.Jobs {
	t.Helper()
	j := jobs.New(api.MaxTasks)
	for i, w := range set {
		if err := j.Join(i+1, w.e, w.p, false); err != api.OK {
			t.Fatal(w, err)
		}
	}
	return j
}

// many are n tasks alike.
func many(t *testing.T, n int, w weight) *jobs.Jobs {
	t.Helper()
	return of(t, slices.Repeat([]weight{w}, n)...)
}

// at is the piece of the id on the core from the clock on.
func at(clock int64, core, id int, slack bool) api.Piece {
	return api.Piece{
		Engine: api.Pfair, Core: core, ID: id, Slack: slack,
		From: api.Rat{N: clock, D: 1}, To: api.Rat{N: clock + 1, D: 1},
	}
}

func slot(t *testing.T, q *Quantum, j *jobs.Jobs, clock int, want ...api.Piece) {
	t.Helper()
	if got := q.Slot(j, clock); !slices.Equal(got, want) {
		t.Errorf("Slot(%d): %v, want %v", clock, got, want)
	}
}

// got is how much the job of the id has got.
func got(t *testing.T, j *jobs.Jobs, id, want int) {
	t.Helper()
	if task, _ := j.Task(id); task.Got != want {
		t.Errorf("task %d has got %d, want %d", id, task.Got, want)
	}
}

// called are sporadic tasks of 1 in 1, with ids from 1 on: whoever is called has the slot, where there are cores.
func called(t *testing.T, n int) *jobs.Jobs {
	t.Helper()
	j := jobs.New(n)
	for id := 1; id <= n; id++ {
		if err := j.Join(id, 1, 1, true); err != api.OK {
			t.Fatal(id, err)
		}
	}
	return j
}

// turn has these ids called at the clock, and holds who sits, core by core, against row (0: nobody).
func turn(t *testing.T, q *Quantum, j *jobs.Jobs, clock int, ids []int, row ...int) {
	t.Helper()
	for _, id := range ids {
		if err := j.Arrive(id); err != api.OK {
			t.Fatal(id, err)
		}
	}
	j.Release(clock)
	var want []api.Piece
	for core, id := range row {
		if id != 0 {
			want = append(want, at(int64(clock), core, id, false))
		}
	}
	slot(t, q, j, clock, want...)
	if _, missed := j.Settle(clock + 1); missed != 0 {
		t.Errorf("clock %d: %d have no slot", clock, missed)
	}
}

// P15.1: the chapter's example.
func TestExample(t *testing.T) {
	j, q := of(t, weight{1, 2}), New(1, false)
	for clock := range 20 {
		j.Release(clock)
		if clock%2 == 0 {
			slot(t, q, j, clock, at(int64(clock), 0, 1, false))
		} else {
			slot(t, q, j, clock)
		}
		j.Settle(clock + 1)
	}
}

// P15.1: the best have the cores, each gets one quantum, and the others none.
func TestBest(t *testing.T) {
	j, q := of(t, weight{1, 9}, weight{1, 3}, weight{2, 3}), New(2, false)
	j.Release(0)
	// By id within the first seats: 2 is on core 0.
	slot(t, q, j, 0, at(0, 0, 2, false), at(0, 1, 3, false))
	got(t, j, 1, 0)
	got(t, j, 2, 1)
	got(t, j, 3, 1)
	slot(t, q, j, 1, at(1, 0, 1, false), at(1, 1, 3, false))
	got(t, j, 1, 1)
	got(t, j, 2, 1)
	got(t, j, 3, 2)
	slot(t, q, j, 2)
	got(t, j, 1, 1)
}

// P15.1: pieces stand by core, not by who is more urgent.
func TestByCore(t *testing.T) {
	j, q := of(t, weight{1, 9}, weight{1, 8}, weight{1, 7}, weight{1, 6}), New(4, false)
	j.Release(0)
	slot(t, q, j, 0, at(0, 0, 1, false), at(0, 1, 2, false), at(0, 2, 3, false), at(0, 3, 4, false))

	k, r := called(t, 9), New(3, false)
	turn(t, r, k, 0, []int{9}, 9)
	turn(t, r, k, 1, []int{2, 5, 9}, 9, 2, 5)
	turn(t, r, k, 2, []int{1, 5, 2}, 1, 2, 5)
}

// P15.1: with early release a quantum need not wait for its window, but for its job.
func TestEarly(t *testing.T) {
	for _, early := range []bool{false, true} {
		j, q := of(t, weight{2, 6}), New(1, early)
		slot(t, q, j, 0)
		j.Release(1)
		slot(t, q, j, 0)
		slot(t, q, j, 1, at(1, 0, 1, false))
		for clock := 2; clock < 7; clock++ {
			if early && clock == 2 || !early && clock == 4 {
				slot(t, q, j, clock, at(int64(clock), 0, 1, false))
			} else {
				slot(t, q, j, clock)
			}
		}
		got(t, j, 1, 2)
	}
}

// P15.1: the time of a job that is done is slack, and it is given all the same.
func TestSlack(t *testing.T) {
	j, q := of(t, weight{3, 3}, weight{3, 3}), New(2, false)
	j.Release(0)
	slot(t, q, j, 0, at(0, 0, 1, false), at(0, 1, 2, false))
	j.Finish(2)
	slot(t, q, j, 1, at(1, 0, 1, false), at(1, 1, 2, true))
	j.Finish(1)
	slot(t, q, j, 2, at(2, 0, 1, true), at(2, 1, 2, true))
	got(t, j, 1, 3)
	got(t, j, 2, 3)
	j.Settle(3)
	j.Release(3)
	slot(t, q, j, 3, at(3, 0, 1, false), at(3, 1, 2, false))
}

// P15.1: whoever goes on stays, and whoever sat ahead of the last slot comes back.
func TestSeats(t *testing.T) {
	j, q := called(t, 9), New(2, false)
	turn(t, q, j, 0, []int{5, 7}, 5, 7)
	turn(t, q, j, 1, []int{7, 9}, 9, 7)
	turn(t, q, j, 2, []int{5, 9}, 9, 5)
	turn(t, q, j, 3, []int{7}, 0, 7)
}

// P15.1: a slot of nobody is one of the seats, too: behind it nobody goes on, and all come back.
func TestSeatsOfNone(t *testing.T) {
	none := []struct {
		name string
		slot func(q *Quantum, j *jobs.Jobs)
	}{
		{"nobody can", func(q *Quantum, j *jobs.Jobs) { q.Slot(j, 2) }},
		{"no tasks", func(q *Quantum, j *jobs.Jobs) { q.Slot(jobs.New(3), 2) }},
		{"unmade jobs", func(q *Quantum, j *jobs.Jobs) { q.Slot(new(jobs.Jobs), 2) }},
		{"nil jobs", func(q *Quantum, j *jobs.Jobs) { q.Slot(nil, 2) }},
	}
	for _, n := range none {
		j, q := called(t, 9), New(2, false)
		turn(t, q, j, 0, []int{5, 7}, 5, 7)
		turn(t, q, j, 1, []int{7, 9}, 9, 7)
		n.slot(q, j)
		turn(t, q, j, 3, []int{5, 9}, 5, 9)
		if t.Failed() {
			t.Fatal(n.name)
		}
	}
}

// P15.1: whoever is forgotten never sat.
func TestForget(t *testing.T) {
	j, q := called(t, 9), New(3, false)
	turn(t, q, j, 0, []int{1, 2, 3}, 1, 2, 3)
	q.Forget(3)
	turn(t, q, j, 1, []int{3}, 3)
	turn(t, q, j, 2, []int{1, 2}, 1, 2)
	q.Forget(9)
	q.Forget(least)
	// 3 comes back to the core that it has had since.
	turn(t, q, j, 3, []int{3}, 3)
}

// P15.1, T2: at most as many have the slot as there are cores, and no more than MaxCores.
func TestHowMany(t *testing.T) {
	rows := []struct{ n, cores int }{
		{least, 0}, {-1 << 32, 0}, {-64, 0}, {-1, 0}, {0, 0}, {1, 1}, {2, 2}, {31, 31}, {33, 33},
		{api.MaxCores - 1, api.MaxCores - 1}, {api.MaxCores, api.MaxCores},
		{api.MaxCores + 1, api.MaxCores}, {1<<32 + 1, api.MaxCores}, {most, api.MaxCores},
	}
	for _, r := range rows {
		j, q := many(t, api.MaxCores+9, weight{1, 2}), New(r.n, false)
		j.Release(0)
		var want []api.Piece
		for core := range r.cores {
			want = append(want, at(0, core, core+1, false))
		}
		slot(t, q, j, 0, want...)
		for id := 1; id <= api.MaxCores+9; id++ {
			if id <= r.cores {
				got(t, j, id, 1)
			} else {
				got(t, j, id, 0)
			}
		}
	}
}

// P15.1: all tasks that can be there are asked.
func TestAllTasks(t *testing.T) {
	const cores = 64
	j, q := many(t, api.MaxTasks, weight{1, api.MaxTasks / cores}), New(cores, true)
	j.Release(0)
	for clock := range api.MaxTasks / cores {
		var want []api.Piece
		for core := range cores {
			want = append(want, at(int64(clock), core, clock*cores+core+1, false))
		}
		slot(t, q, j, clock, want...)
	}
	if _, missed := j.Settle(api.MaxTasks / cores); missed != 0 {
		t.Error(missed, "have missed")
	}
}

// P15.1: Slot neither releases nor settles.
func TestWhoReleases(t *testing.T) {
	j, q := of(t, weight{2, 3}), New(1, false)
	slot(t, q, j, 0)
	slot(t, q, j, 5)
	j.Release(5)
	slot(t, q, j, 5, at(5, 0, 1, false))
	// A job that nobody settles goes on beyond its deadline, and ends with its last quantum.
	slot(t, q, j, 9, at(9, 0, 1, false))
	slot(t, q, j, 10)
	task, _ := j.Task(1)
	if want := (jobs.Task{ID: 1, E: 2, P: 3, Active: true, Release: 5, Got: 2, Count: 1}); task != want {
		t.Errorf("%+v, want %+v", task, want)
	}
}

// R6: a clock may be any number.
func TestFarClocks(t *testing.T) {
	for _, clock := range []int{least, least + 1, -1 << 32, -1, 0, 1<<32 + 1, 1 << 62, most - 1} {
		j, q := of(t, weight{1, 2}), New(1, false)
		j.Release(clock)
		slot(t, q, j, clock, at(int64(clock), 0, 1, false))
	}
	for _, early := range []bool{false, true} {
		j, q := of(t, weight{3, 3}), New(1, early)
		j.Release(0)
		slot(t, q, j, least)
		slot(t, q, j, -1)
		slot(t, q, j, most-1, at(most-1, 0, 1, false))
	}
}

// R1: also the last clock of all, behind which there is none, is a slot.
func TestLastClock(t *testing.T) {
	j, q := of(t, weight{1, 2}), New(1, false)
	j.Release(most)
	if l := q.Slot(j, most); len(l) != 1 || l[0].From != (api.Rat{N: most, D: 1}) || l[0].ID != 1 {
		t.Errorf("%v", l)
	}
	got(t, j, 1, 1)
}

// R7: nil ones, and those that New has not made, have nothing to give.
func TestNothing(t *testing.T) {
	var none *Quantum
	none.Forget(1)
	new(Quantum).Forget(1)
	j := many(t, 3, weight{1, 2})
	j.Release(0)
	for _, q := range []*Quantum{none, new(Quantum)} {
		for _, clock := range []int{least, 0, most} {
			slot(t, q, j, clock)
			slot(t, q, nil, clock)
		}
	}
	for id := 1; id <= 3; id++ {
		got(t, j, id, 0)
	}
	q := New(2, true)
	slot(t, q, nil, 0)
	slot(t, q, new(jobs.Jobs), 0)
	slot(t, q, jobs.New(0), 0)
}

// R4: what was answered is the asker's own.
func TestApart(t *testing.T) {
	j, q := many(t, 3, weight{3, 3}), New(3, false)
	j.Release(0)
	first := q.Slot(j, 0)
	kept := slices.Clone(first)
	second := q.Slot(j, 1)
	if !slices.Equal(first, kept) {
		t.Errorf("a later slot has changed the first: %v", first)
	}
	for _, l := range [][]api.Piece{first, second} {
		l = l[:cap(l)]
		for i := range l {
			l[i] = api.Piece{Engine: -1, Core: -1, ID: -1}
		}
	}
	slot(t, q, j, 2, at(2, 0, 1, false), at(2, 1, 2, false), at(2, 2, 3, false))
}

// R5: engines know nothing of one another.
func TestTwo(t *testing.T) {
	j, q, r := called(t, 9), New(2, false), New(2, false)
	turn(t, q, j, 0, []int{5, 7}, 5, 7)
	turn(t, r, j, 1, []int{7}, 7)
	turn(t, q, j, 2, []int{7, 9}, 9, 7)
	turn(t, r, j, 3, []int{5, 7}, 7, 5)
}

// slow is Slot in the chapter's words: the best are looked for one after another.
func slow(seats *seat.Seats, j *jobs.Jobs, clock, cores int, early bool) []api.Piece {
	var ids []int
	for len(ids) < cores {
		found, urgent := jobs.Task{}, rank.Rank{}
		for _, id := range j.IDs() {
			task, _ := j.Task(id)
			if !pick.Can(task, clock, early) || slices.Contains(ids, id) {
				continue
			}
			if r := pick.Rank(task); !found.Active || rank.Less(r, urgent) {
				found, urgent = task, r
			}
		}
		if !found.Active {
			break
		}
		ids = append(ids, found.ID)
	}
	row, _ := seats.Sit(ids)
	var l []api.Piece
	for core := range cores {
		if i := slices.Index(row, core); i >= 0 {
			task, _ := j.Task(ids[i])
			l = append(l, at(int64(clock), core, ids[i], task.Done))
			j.Give(ids[i])
		}
	}
	return l
}

// P15.1: long rows of slots, also of more than there are cores for, are those of the slow way.
func TestAgainstSlow(t *testing.T) {
	r := rand.New(rand.NewSource(15))
	for range 150 {
		cores, early := 1+r.Intn(6), r.Intn(2) == 0
		q, seats := New(cores, early), seat.New(cores)
		j, k := jobs.New(20), jobs.New(20)
		for clock := range 120 {
			id, e, p := r.Intn(25), 1+r.Intn(4), 1+r.Intn(9)
			switch kind := r.Intn(8); kind {
			case 0, 1, 2:
				j.Join(id, e, p, kind == 0)
				k.Join(id, e, p, kind == 0)
			case 3:
				j.Leave(id)
				k.Leave(id)
			case 4, 5:
				j.Arrive(id)
				k.Arrive(id)
			case 6:
				j.Finish(id)
				k.Finish(id)
			case 7:
				q.Forget(id)
				seats.Forget(id)
			}
			j.Release(clock)
			k.Release(clock)
			if got, want := q.Slot(j, clock), slow(seats, k, clock, cores, early); !slices.Equal(got, want) {
				t.Fatalf("%d cores, early %v, clock %d: %v, want %v", cores, early, clock, got, want)
			}
			gone, missed := j.Settle(clock + 1)
			wantGone, wantMissed := k.Settle(clock + 1)
			if !slices.Equal(gone, wantGone) || missed != wantMissed {
				t.Fatalf("clock %d: %v, %d, want %v, %d", clock, gone, missed, wantGone, wantMissed)
			}
		}
	}
}

func BenchmarkSlot(b *testing.B) {
	j, q := jobs.New(api.MaxTasks), New(api.MaxCores, false)
	for id := range api.MaxTasks {
		j.Join(id, 1, 100+id%100, false)
	}
	for clock := 0; b.Loop(); clock++ {
		j.Release(clock)
		q.Slot(j, clock)
		j.Settle(clock + 1)
	}
}
