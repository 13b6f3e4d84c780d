package jobs

import (
	"maps"
	"math"
	"math/rand"
	"slices"
	"testing"

	"evenhanded/api"
)

const (
	least = math.MinInt
	most  = math.MaxInt
)

// far are ids that are taken as any others, and some of them have the low bits of a small one.
var far = []int{least, least + 1, -1 << 32, -1, 0, 1, 1<<16 + 1, 1<<32 + 1, 1 << 62, most - 1, most}

// strangers are ids of which no test has a task.
var strangers = []int{least, -7, 1000, 1<<32 + 5, 1<<32 + 7, most}

func join(t *testing.T, j *Jobs, id, e, p int, sporadic bool, want api.Errno) {
	t.Helper()
	if err := j.Join(id, e, p, sporadic); err != want {
		t.Errorf("Join(%d, %d, %d, %v): %v, want %v", id, e, p, sporadic, err, want)
	}
}

func leave(t *testing.T, j *Jobs, id int, want bool, wantErr api.Errno) {
	t.Helper()
	if gone, err := j.Leave(id); gone != want || err != wantErr {
		t.Errorf("Leave(%d): %v, %v, want %v, %v", id, gone, err, want, wantErr)
	}
}

func arrive(t *testing.T, j *Jobs, id int, want api.Errno) {
	t.Helper()
	if err := j.Arrive(id); err != want {
		t.Errorf("Arrive(%d): %v, want %v", id, err, want)
	}
}

func finish(t *testing.T, j *Jobs, id int, want api.Errno) {
	t.Helper()
	if err := j.Finish(id); err != want {
		t.Errorf("Finish(%d): %v, want %v", id, err, want)
	}
}

func give(t *testing.T, j *Jobs, id int, want bool) {
	t.Helper()
	if ok := j.Give(id); ok != want {
		t.Errorf("Give(%d): %v, want %v", id, ok, want)
	}
}

func release(t *testing.T, j *Jobs, clock int, want ...int) {
	t.Helper()
	if ids := j.Release(clock); !slices.Equal(ids, want) {
		t.Errorf("Release(%d): %v, want %v", clock, ids, want)
	}
}

func settle(t *testing.T, j *Jobs, clock, missed int, want ...int) {
	t.Helper()
	if gone, n := j.Settle(clock); !slices.Equal(gone, want) || n != missed {
		t.Errorf("Settle(%d): %v, %d, want %v, %d", clock, gone, n, want, missed)
	}
}

// is holds that this task is here, and is so.
func is(t *testing.T, j *Jobs, want Task) {
	t.Helper()
	if got, ok := j.Task(want.ID); got != want || !ok {
		t.Errorf("Task(%d): %+v, %v, want %+v, true", want.ID, got, ok, want)
	}
}

// none holds that no task of this id is here.
func none(t *testing.T, j *Jobs, id int) {
	t.Helper()
	if got, ok := j.Task(id); got != (Task{}) || ok {
		t.Errorf("Task(%d): %+v, %v, want zero, false", id, got, ok)
	}
}

func all(t *testing.T, j *Jobs, want ...int) {
	t.Helper()
	if ids := j.IDs(); !slices.Equal(ids, want) {
		t.Errorf("IDs: %v, want %v", ids, want)
	}
}

// absent holds what each call answers of a task that is not here, and that it changes nothing.
func absent(t *testing.T, j *Jobs, id int) {
	t.Helper()
	before := j.IDs()
	leave(t, j, id, false, api.ErrNone)
	arrive(t, j, id, api.ErrNone)
	finish(t, j, id, api.ErrNone)
	give(t, j, id, false)
	none(t, j, id)
	all(t, j, before...)
}

// P12.1, P12.2: the chapter's example.
func TestExample(t *testing.T) {
	j := New(1)
	join(t, j, 1, 2, 4, false, api.OK)
	release(t, j, 0, 1)
	settle(t, j, 4, 1)
}

// P12.1: as many tasks as chapter 5 has slots: from 0 to MaxTasks, whatever New is asked for.
func TestNew(t *testing.T) {
	for _, w := range []struct{ n, room int }{
		{least, 0}, {-1 << 32, 0}, {-1, 0}, {0, 0}, {1, 1}, {2, 2}, {7, 7},
		{api.MaxTasks - 1, api.MaxTasks - 1}, {api.MaxTasks, api.MaxTasks}, {api.MaxTasks + 1, api.MaxTasks}, {1<<32 + 1, api.MaxTasks}, {most, api.MaxTasks},
	} {
		j := New(w.n)
		all(t, j)
		for id := range w.room {
			join(t, j, id, 1, 1, false, api.OK)
		}
		join(t, j, w.room, 1, 1, false, api.ErrFull)
		if n := len(j.IDs()); n != w.room {
			t.Errorf("New(%d): room for %d, want %d", w.n, n, w.room)
		}
	}
}

// P12.1: a task that joins is here, with no job; e and p are from their least to their greatest.
func TestJoin(t *testing.T) {
	j := New(10)
	for id, w := range []struct {
		e, p     int
		sporadic bool
	}{
		{1, 1, false}, {1, 1, true}, {1, 2, false}, {2, 2, true}, {3, 7, true}, {1, api.MaxPeriod, false}, {api.MaxPeriod - 1, api.MaxPeriod, true}, {api.MaxPeriod, api.MaxPeriod, false},
	} {
		none(t, j, id)
		join(t, j, id, w.e, w.p, w.sporadic, api.OK)
		is(t, j, Task{ID: id, E: w.e, P: w.p, Sporadic: w.sporadic})
	}
}

// P12.1: ErrArg where e is not from 1 to p, or p not from 1 to MaxPeriod; who joins so is not here.
func TestJoinArg(t *testing.T) {
	j := New(3)
	for _, w := range []struct{ e, p int }{
		{0, 0}, {0, 1}, {1, 0}, {2, 1}, {-1, 1}, {-1, -1}, {1, -1}, {-2, -1}, {0, -1}, {3, 2}, {0, 5}, {6, 5},
		{1, api.MaxPeriod + 1}, {api.MaxPeriod + 1, api.MaxPeriod + 1}, {api.MaxPeriod + 1, api.MaxPeriod}, {0, api.MaxPeriod},
		{1, 1<<32 + 1}, {1<<32 + 1, 1}, {1<<32 + 1, 1<<32 + 1}, {1 << 32, 5}, {least, least}, {least, 1}, {1, least}, {least, most}, {most, most}, {1, most}, {most, 1},
	} {
		for _, sporadic := range []bool{false, true} {
			join(t, j, 5, w.e, w.p, sporadic, api.ErrArg)
			absent(t, j, 5)
		}
	}
	release(t, j, 0)
}

// P12.1, R6: ErrArg goes ahead of ErrThere, and that ahead of ErrFull.
func TestJoinOrder(t *testing.T) {
	j := New(2)
	join(t, j, 5, 2, 4, false, api.OK)
	join(t, j, 5, 0, 4, false, api.ErrArg)
	join(t, j, 5, 2, 4, false, api.ErrThere)
	join(t, j, 5, 1, 3, true, api.ErrThere)
	join(t, j, 7, 1, 3, true, api.OK)
	join(t, j, 5, 0, 4, false, api.ErrArg)
	join(t, j, 8, 0, 4, false, api.ErrArg)
	join(t, j, 5, 1, 3, false, api.ErrThere)
	join(t, j, 8, 1, 3, false, api.ErrFull)
	is(t, j, Task{ID: 5, E: 2, P: 4})
	is(t, j, Task{ID: 7, E: 1, P: 3, Sporadic: true})
	none(t, j, 8)
	all(t, j, 5, 7)
}

// P12.1, R3: ErrThere of a task that is Active, is leaving or waits, leaves it so.
func TestJoinThere(t *testing.T) {
	j := New(4)
	for id := range 3 {
		join(t, j, id, 2, 4, id == 2, api.OK)
	}
	release(t, j, 3, 0, 1)
	give(t, j, 0, true)
	leave(t, j, 1, false, api.OK)
	arrive(t, j, 2, api.OK)
	for id := range 3 {
		join(t, j, id, 1, 1, false, api.ErrThere)
	}
	is(t, j, Task{ID: 0, E: 2, P: 4, Active: true, Release: 3, Got: 1, Count: 1})
	is(t, j, Task{ID: 1, E: 2, P: 4, Leaving: true, Active: true, Release: 3, Count: 1})
	is(t, j, Task{ID: 2, E: 2, P: 4, Sporadic: true, Waiting: true})
}

// R6: an id may be any number.
func TestFarIDs(t *testing.T) {
	j := New(len(far))
	for i, id := range far {
		join(t, j, id, i+1, i+2, false, api.OK)
		join(t, j, id, 1, 1, false, api.ErrThere)
	}
	all(t, j, far...)
	release(t, j, 0, far...)
	for i, id := range far {
		is(t, j, Task{ID: id, E: i + 1, P: i + 2, Active: true, Count: 1})
		leave(t, j, id, false, api.OK)
	}
	settle(t, j, len(far)+1, len(far), far...)
	all(t, j)
}

// P12.1: who is not here: ErrNone, in an empty one, beside others, and when it is gone.
func TestNone(t *testing.T) {
	j := New(3)
	for _, id := range strangers {
		absent(t, j, id)
	}
	join(t, j, 5, 1, 2, false, api.OK)
	join(t, j, 7, 1, 2, true, api.OK)
	release(t, j, 0, 5)
	for _, id := range strangers {
		absent(t, j, id)
	}
	leave(t, j, 5, false, api.OK)
	settle(t, j, 2, 1, 5)
	leave(t, j, 7, true, api.OK)
	absent(t, j, 5)
	absent(t, j, 7)
}

// P12.1: who leaves while not Active is gone at once: before its first job, between two, and while it waits.
func TestLeaveAtOnce(t *testing.T) {
	j := New(3)
	join(t, j, 5, 1, 2, false, api.OK)
	join(t, j, 7, 1, 2, true, api.OK)
	join(t, j, 9, 1, 2, true, api.OK)
	arrive(t, j, 9, api.OK)
	for i, id := range []int{5, 9, 7} {
		leave(t, j, id, true, api.OK)
		absent(t, j, id)
		all(t, j, [][]int{{7, 9}, {7}, {}}[i]...)
	}
	release(t, j, 0)
	join(t, j, 5, 1, 2, false, api.OK)
	release(t, j, 0, 5)
	settle(t, j, 2, 1)
	leave(t, j, 5, true, api.OK)
	absent(t, j, 5)
	release(t, j, 2)
	settle(t, j, most, 0)
}

// P12.1: who leaves while Active is leaving till its job ends, and gets what it is due meanwhile.
func TestLeaveLater(t *testing.T) {
	j := New(2)
	join(t, j, 5, 2, 4, false, api.OK)
	join(t, j, 7, 2, 4, true, api.OK)
	arrive(t, j, 7, api.OK)
	release(t, j, 10, 5, 7)
	for _, id := range []int{5, 7} {
		leave(t, j, id, false, api.OK)
		leave(t, j, id, false, api.ErrLeaving)
		is(t, j, Task{ID: id, E: 2, P: 4, Sporadic: id == 7, Leaving: true, Active: true, Release: 10, Count: 1})
		give(t, j, id, true)
		finish(t, j, id, api.OK)
		leave(t, j, id, false, api.ErrLeaving)
		is(t, j, Task{ID: id, E: 2, P: 4, Sporadic: id == 7, Leaving: true, Active: true, Release: 10, Got: 1, Done: true, Count: 1})
	}
	give(t, j, 5, true)
	settle(t, j, 13, 0)
	release(t, j, 13)
	all(t, j, 5, 7)
	settle(t, j, 14, 1, 5, 7)
	all(t, j)
	release(t, j, 14)
}

// P12.1: each error of Arrive; R6: in which order. A task that is not sporadic is of the wrong kind whatever it does.
func TestArrive(t *testing.T) {
	j := New(2)
	join(t, j, 5, 1, 3, false, api.OK)
	join(t, j, 7, 1, 3, true, api.OK)
	arrive(t, j, 5, api.ErrKind)
	arrive(t, j, 7, api.OK)
	is(t, j, Task{ID: 5, E: 1, P: 3})
	is(t, j, Task{ID: 7, E: 1, P: 3, Sporadic: true, Waiting: true})
	arrive(t, j, 7, api.ErrBusy)
	release(t, j, 0, 5, 7)
	arrive(t, j, 5, api.ErrKind)
	arrive(t, j, 7, api.ErrBusy)
	give(t, j, 7, true)
	arrive(t, j, 7, api.ErrBusy)
	leave(t, j, 5, false, api.OK)
	leave(t, j, 7, false, api.OK)
	arrive(t, j, 5, api.ErrKind)
	arrive(t, j, 7, api.ErrLeaving)
	is(t, j, Task{ID: 7, E: 1, P: 3, Sporadic: true, Leaving: true, Active: true, Got: 1, Count: 1})
}

// P12.1, P12.2: a sporadic task has one job each time it arrives, and none before.
func TestSporadic(t *testing.T) {
	j := New(1)
	join(t, j, 7, 1, 3, true, api.OK)
	release(t, j, 0)
	settle(t, j, most, 0)
	for i := range 3 {
		clock := 100 * i
		arrive(t, j, 7, api.OK)
		settle(t, j, most, 0)
		is(t, j, Task{ID: 7, E: 1, P: 3, Sporadic: true, Waiting: true, Count: i})
		release(t, j, clock, 7)
		is(t, j, Task{ID: 7, E: 1, P: 3, Sporadic: true, Active: true, Release: clock, Count: i + 1})
		release(t, j, clock)
		give(t, j, 7, true)
		settle(t, j, clock+3, 0)
		is(t, j, Task{ID: 7, E: 1, P: 3, Sporadic: true, Count: i + 1})
		release(t, j, clock+3)
		release(t, j, clock+99)
	}
}

// P12.1: each error of Finish; R6: in which order. A job that is done may still get what it is due.
func TestFinish(t *testing.T) {
	j := New(2)
	join(t, j, 5, 2, 4, false, api.OK)
	join(t, j, 7, 1, 4, true, api.OK)
	finish(t, j, 5, api.ErrIdle)
	arrive(t, j, 7, api.OK)
	finish(t, j, 7, api.ErrIdle)
	release(t, j, 0, 5, 7)
	give(t, j, 5, true)
	finish(t, j, 5, api.OK)
	finish(t, j, 5, api.ErrDone)
	is(t, j, Task{ID: 5, E: 2, P: 4, Active: true, Got: 1, Done: true, Count: 1})
	give(t, j, 5, true)
	give(t, j, 5, false)
	finish(t, j, 5, api.ErrDone)
	is(t, j, Task{ID: 5, E: 2, P: 4, Active: true, Got: 2, Done: true, Count: 1})
	give(t, j, 7, true)
	finish(t, j, 7, api.ErrDone)
	is(t, j, Task{ID: 7, E: 1, P: 4, Sporadic: true, Active: true, Got: 1, Count: 1})
	settle(t, j, 4, 0)
	finish(t, j, 5, api.ErrIdle)
	finish(t, j, 7, api.ErrIdle)
	is(t, j, Task{ID: 5, E: 2, P: 4, Count: 1})
	release(t, j, 4, 5)
	finish(t, j, 5, api.OK)
	is(t, j, Task{ID: 5, E: 2, P: 4, Active: true, Release: 4, Done: true, Count: 2})
}

// P12.2: Release gives a job to each that is not Active, if it is not sporadic or waits; none has two.
func TestRelease(t *testing.T) {
	j := New(4)
	release(t, j, 0)
	join(t, j, 9, 1, 2, false, api.OK)
	join(t, j, 3, 2, 3, true, api.OK)
	join(t, j, 5, 2, 5, true, api.OK)
	arrive(t, j, 5, api.OK)
	release(t, j, 7, 5, 9)
	is(t, j, Task{ID: 9, E: 1, P: 2, Active: true, Release: 7, Count: 1})
	is(t, j, Task{ID: 3, E: 2, P: 3, Sporadic: true})
	is(t, j, Task{ID: 5, E: 2, P: 5, Sporadic: true, Active: true, Release: 7, Count: 1})
	release(t, j, 7)
	release(t, j, 8)
	release(t, j, 100)
	is(t, j, Task{ID: 9, E: 1, P: 2, Active: true, Release: 7, Count: 1})
	join(t, j, 1, 1, 1, false, api.OK)
	release(t, j, 8, 1)
	settle(t, j, 9, 2)
	arrive(t, j, 3, api.OK)
	release(t, j, 9, 1, 3, 9)
	is(t, j, Task{ID: 1, E: 1, P: 1, Active: true, Release: 9, Count: 2})
	is(t, j, Task{ID: 3, E: 2, P: 3, Sporadic: true, Active: true, Release: 9, Count: 1})
	is(t, j, Task{ID: 5, E: 2, P: 5, Sporadic: true, Active: true, Release: 7, Count: 1})
	is(t, j, Task{ID: 9, E: 1, P: 2, Active: true, Release: 9, Count: 2})
}

// P12.2: ids rise, not slots, nor the order in which tasks joined or their jobs end.
func TestRising(t *testing.T) {
	j := New(6)
	for i, id := range []int{4, -2, 9, 0, 7, 5} {
		join(t, j, id, 1, 10-i, false, api.OK)
	}
	leave(t, j, 9, true, api.OK)
	join(t, j, 8, 1, 1, false, api.OK)
	all(t, j, -2, 0, 4, 5, 7, 8)
	release(t, j, 0, -2, 0, 4, 5, 7, 8)
	for _, id := range []int{8, 4, 0, 7, 5} {
		leave(t, j, id, false, api.OK)
	}
	settle(t, j, 100, 6, 0, 4, 5, 7, 8)
	all(t, j, -2)
}

// P12.2: a job ends at its deadline, neither earlier nor only there, and nothing of it is left.
func TestSettle(t *testing.T) {
	for _, late := range []int{0, 1, 50} {
		j := New(2)
		join(t, j, 5, 2, 4, false, api.OK)
		join(t, j, 7, 1, 60, false, api.OK)
		release(t, j, 10, 5, 7)
		give(t, j, 5, true)
		finish(t, j, 5, api.OK)
		for _, clock := range []int{least, -1, 0, 9, 10, 13} {
			settle(t, j, clock, 0)
			is(t, j, Task{ID: 5, E: 2, P: 4, Active: true, Release: 10, Got: 1, Done: true, Count: 1})
		}
		settle(t, j, 14+late, 1)
		is(t, j, Task{ID: 5, E: 2, P: 4, Count: 1})
		is(t, j, Task{ID: 7, E: 1, P: 60, Active: true, Release: 10, Count: 1})
		settle(t, j, 14+late, 0)
		give(t, j, 5, false)
	}
}

// P12.2: what is missed is each job with another Got than E, done or not, leaving or not.
func TestMissed(t *testing.T) {
	j := New(8)
	for id := range 8 {
		join(t, j, id, 3, 5, false, api.OK)
	}
	release(t, j, 0, 0, 1, 2, 3, 4, 5, 6, 7)
	for id, quanta := range []int{0, 1, 2, 3, 3, 2, 3, 0} {
		if id%2 == 1 {
			finish(t, j, id, api.OK)
		}
		for range quanta {
			give(t, j, id, true)
		}
	}
	for _, id := range []int{2, 3, 4} {
		leave(t, j, id, false, api.OK)
	}
	settle(t, j, 5, 5, 2, 3, 4)
	all(t, j, 0, 1, 5, 6, 7)
	settle(t, j, 5, 0)
}

// P12.2: Settle takes what is due, and leaves the rest, jobs of one time together.
func TestSettleSome(t *testing.T) {
	j := New(5)
	for id := range 5 {
		join(t, j, id, 1, 1+id/2, false, api.OK)
	}
	release(t, j, 0, 0, 1, 2, 3, 4)
	settle(t, j, 0, 0)
	settle(t, j, 1, 2)
	release(t, j, 1, 0, 1)
	settle(t, j, 1, 0)
	settle(t, j, 2, 4)
	release(t, j, 2, 0, 1, 2, 3)
	give(t, j, 4, true)
	settle(t, j, 3, 2)
	settle(t, j, 4, 2)
	for id := range 5 {
		is(t, j, Task{ID: id, E: 1, P: 1 + id/2, Count: []int{3, 3, 2, 2, 1}[id]})
	}
}

// P12.2: Give answers false where there is no job, and where it has all; it has not given then.
func TestGive(t *testing.T) {
	j := New(2)
	join(t, j, 5, 3, 4, false, api.OK)
	join(t, j, 7, 1, 4, true, api.OK)
	arrive(t, j, 7, api.OK)
	give(t, j, 5, false)
	give(t, j, 7, false)
	is(t, j, Task{ID: 5, E: 3, P: 4})
	is(t, j, Task{ID: 7, E: 1, P: 4, Sporadic: true, Waiting: true})
	release(t, j, 0, 5, 7)
	for got := range 3 {
		is(t, j, Task{ID: 5, E: 3, P: 4, Active: true, Got: got, Count: 1})
		give(t, j, 5, true)
	}
	give(t, j, 5, false)
	is(t, j, Task{ID: 5, E: 3, P: 4, Active: true, Got: 3, Count: 1})
	is(t, j, Task{ID: 7, E: 1, P: 4, Sporadic: true, Active: true, Count: 1})
	settle(t, j, 4, 1)
	give(t, j, 5, false)
}

// P12.1: who joins anew is another task: nothing of the one that is gone is left, nor of the end of its job.
func TestAnew(t *testing.T) {
	j := New(1)
	join(t, j, 7, 2, 5, true, api.OK)
	arrive(t, j, 7, api.OK)
	leave(t, j, 7, true, api.OK)
	join(t, j, 7, 1, 3, true, api.OK)
	is(t, j, Task{ID: 7, E: 1, P: 3, Sporadic: true})
	release(t, j, 0)
	arrive(t, j, 7, api.OK)
	release(t, j, 10, 7)
	give(t, j, 7, true)
	leave(t, j, 7, false, api.OK)
	join(t, j, 8, 1, 1, false, api.ErrFull)
	settle(t, j, 13, 0, 7)
	join(t, j, 7, 2, 9, false, api.OK)
	is(t, j, Task{ID: 7, E: 2, P: 9})
	release(t, j, 0, 7)
	settle(t, j, 8, 0)
	is(t, j, Task{ID: 7, E: 2, P: 9, Active: true, Count: 1})
	settle(t, j, 9, 1)
	leave(t, j, 7, true, api.OK)
	join(t, j, 8, 1, 1, false, api.OK)
	is(t, j, Task{ID: 8, E: 1, P: 1})
	none(t, j, 7)
}

// What is kept does not grow with how many came and went.
func TestKept(t *testing.T) {
	j := New(3)
	for i := range 100 {
		join(t, j, i, 1, 2, false, api.OK)
		join(t, j, -1-i, 1, 2, true, api.OK)
		release(t, j, 2*i, i)
		leave(t, j, -1-i, true, api.OK)
		leave(t, j, i, false, api.OK)
		settle(t, j, 2*i+2, 1, i)
	}
	if n := len(j.tasks); n > 3 || j.ends.Len() != 0 {
		t.Errorf("%d tasks and %d ends are kept, of 3 and none", n, j.ends.Len())
	}
	for _, task := range j.tasks {
		if task != (Task{}) {
			t.Errorf("%+v is gone, and kept", task)
		}
	}
}

// P12.2, R6: a clock may be any number, and one may come before an earlier one.
func TestAnyClock(t *testing.T) {
	j := New(1)
	join(t, j, 5, 1, 4, false, api.OK)
	for i, clock := range []int{100, 3, -50, 0, 1 << 40, -1 << 40, least, least + 1, most - 4} {
		release(t, j, clock, 5)
		is(t, j, Task{ID: 5, E: 1, P: 4, Active: true, Release: clock, Count: i + 1})
		settle(t, j, clock, 0)
		settle(t, j, clock+3, 0)
		settle(t, j, least, 0)
		settle(t, j, clock+4, 1)
		is(t, j, Task{ID: 5, E: 1, P: 4, Count: i + 1})
	}
}

// P12.2, R1: a job whose deadline is later than any clock is not due at any.
func TestNoEnd(t *testing.T) {
	for _, clock := range []int{most - 3, most - 1, most} {
		j := New(2)
		join(t, j, 5, 1, 4, false, api.OK)
		join(t, j, 7, 1, 1, false, api.OK)
		leave(t, j, 7, true, api.OK)
		release(t, j, clock, 5)
		for _, c := range []int{least, least + 3, -1, 0, clock, most} {
			settle(t, j, c, 0)
		}
		is(t, j, Task{ID: 5, E: 1, P: 4, Active: true, Release: clock, Count: 1})
		leave(t, j, 5, false, api.OK)
		settle(t, j, most, 0)
		give(t, j, 5, true)
		is(t, j, Task{ID: 5, E: 1, P: 4, Leaving: true, Active: true, Release: clock, Got: 1, Count: 1})
	}
}

// Ways: a task is a value: one that was handed out stays as it was, and what is written into it changes nothing.
func TestValue(t *testing.T) {
	j := New(1)
	join(t, j, 5, 2, 4, false, api.OK)
	release(t, j, 3, 5)
	old, _ := j.Task(5)
	give(t, j, 5, true)
	leave(t, j, 5, false, api.OK)
	if want := (Task{ID: 5, E: 2, P: 4, Active: true, Release: 3, Count: 1}); old != want {
		t.Errorf("handed out: %+v, want %+v", old, want)
	}
	scribbled, _ := j.Task(5)
	scribbled.Active, scribbled.Leaving, scribbled.Got, scribbled.E, scribbled.ID = false, false, 9, 9, 9
	is(t, j, Task{ID: 5, E: 2, P: 4, Leaving: true, Active: true, Release: 3, Got: 1, Count: 1})
	settle(t, j, 7, 1, 5)
}

// scribble writes over a list and its spare room.
func scribble(l []int) {
	for i := range l[:cap(l)] {
		l[:cap(l)][i] = -99
	}
}

// R4: lists that are answered are new memory, spare room too.
func TestApart(t *testing.T) {
	j := New(20)
	for id := range 20 {
		join(t, j, id, 1, 2, false, api.OK)
	}
	for round := range 3 {
		scribble(j.IDs())
		scribble(j.Release(10 * round))
		for id := range 20 {
			is(t, j, Task{ID: id, E: 1, P: 2, Active: true, Release: 10 * round, Count: round + 1})
		}
		scribble(j.IDs())
		settle(t, j, 10*round+2, 20)
	}
	j.Release(50)
	for id := range 10 {
		leave(t, j, id, false, api.OK)
	}
	gone, _ := j.Settle(52)
	scribble(gone)
	all(t, j, 10, 11, 12, 13, 14, 15, 16, 17, 18, 19)
	first, second := j.IDs(), j.IDs()
	scribble(first)
	if second[0] != 10 {
		t.Errorf("two lists of IDs share: %v", second)
	}
}

// R5: what is asked of one changes nothing of another.
func TestTwo(t *testing.T) {
	a, b := New(2), New(2)
	join(t, a, 5, 1, 2, false, api.OK)
	absent(t, b, 5)
	join(t, b, 5, 2, 3, true, api.OK)
	release(t, a, 0, 5)
	release(t, b, 0)
	leave(t, b, 5, true, api.OK)
	is(t, a, Task{ID: 5, E: 1, P: 2, Active: true, Count: 1})
	settle(t, b, 2, 0)
	settle(t, a, 2, 1)
}

// R7: of nil ones.
func TestNil(t *testing.T) {
	var j *Jobs
	join(t, j, 1, 1, 1, false, api.ErrArg)
	join(t, j, 1, 0, 1, true, api.ErrArg)
	none(t, j, 1)
	all(t, j)
	leave(t, j, 1, false, api.ErrArg)
	arrive(t, j, 1, api.ErrArg)
	finish(t, j, 1, api.ErrArg)
	release(t, j, 0)
	settle(t, j, 0, 0)
	give(t, j, 1, false)
}

// R1: one that New did not make has no slots.
func TestUnmade(t *testing.T) {
	var j Jobs
	join(t, &j, 1, 0, 1, false, api.ErrArg)
	join(t, &j, 1, 1, 1, false, api.ErrFull)
	absent(t, &j, 1)
	all(t, &j)
	release(t, &j, 0)
	settle(t, &j, most, 0)
}

// P12.1, P12.2: all MaxTasks tasks, released and settled and gone.
func TestMany(t *testing.T) {
	j := New(api.MaxTasks)
	var ids []int
	for i := range api.MaxTasks {
		id := 7 * (i ^ 0x5a5)
		join(t, j, id, 1, 1+i%100, i%3 == 0, api.OK)
		ids = append(ids, id)
	}
	for i := 0; i < len(ids); i += 3 {
		arrive(t, j, ids[i], api.OK)
	}
	slices.Sort(ids)
	all(t, j, ids...)
	release(t, j, 0, ids...)
	for _, id := range ids {
		leave(t, j, id, false, api.OK)
		give(t, j, id, true)
	}
	var gone []int
	for clock := range 101 {
		some, missed := j.Settle(clock)
		if missed != 0 || !slices.IsSorted(some) {
			t.Errorf("Settle(%d): %d missed of %v", clock, missed, some)
		}
		gone = append(gone, some...)
	}
	slices.Sort(gone)
	if !slices.Equal(gone, ids) {
		t.Errorf("%d are gone, want %d", len(gone), len(ids))
	}
	all(t, j)
}

// plain is the slow way: tasks by id, all of them asked each time.
type plain struct {
	n     int
	tasks map[int]Task
}

func (w *plain) ids() []int {
	return slices.Sorted(maps.Keys(w.tasks))
}

func (w *plain) join(id, e, p int, sporadic bool) api.Errno {
	if e < 1 || e > p || p > api.MaxPeriod {
		return api.ErrArg
	}
	if _, ok := w.tasks[id]; ok {
		return api.ErrThere
	}
	if len(w.tasks) == w.n {
		return api.ErrFull
	}
	w.tasks[id] = Task{ID: id, E: e, P: p, Sporadic: sporadic}
	return api.OK
}

func (w *plain) leave(id int) (bool, api.Errno) {
	t, ok := w.tasks[id]
	if !ok {
		return false, api.ErrNone
	}
	if t.Leaving {
		return false, api.ErrLeaving
	}
	if !t.Active {
		delete(w.tasks, id)
		return true, api.OK
	}
	t.Leaving = true
	w.tasks[id] = t
	return false, api.OK
}

func (w *plain) arrive(id int) api.Errno {
	t, ok := w.tasks[id]
	if !ok {
		return api.ErrNone
	}
	if !t.Sporadic {
		return api.ErrKind
	}
	if t.Leaving {
		return api.ErrLeaving
	}
	if t.Active || t.Waiting {
		return api.ErrBusy
	}
	t.Waiting = true
	w.tasks[id] = t
	return api.OK
}

func (w *plain) finish(id int) api.Errno {
	t, ok := w.tasks[id]
	if !ok {
		return api.ErrNone
	}
	if !t.Active {
		return api.ErrIdle
	}
	if t.Done || t.Got == t.E {
		return api.ErrDone
	}
	t.Done = true
	w.tasks[id] = t
	return api.OK
}

func (w *plain) release(clock int) []int {
	var l []int
	for _, id := range w.ids() {
		t := w.tasks[id]
		if t.Active || t.Sporadic && !t.Waiting {
			continue
		}
		w.tasks[id] = Task{ID: id, E: t.E, P: t.P, Sporadic: t.Sporadic, Active: true, Release: clock, Count: t.Count + 1}
		l = append(l, id)
	}
	return l
}

// over says whether p has gone by from the release to the clock. The difference of two ints has room in a uint.
func over(release, p, clock int) bool {
	return clock > release && uint(clock)-uint(release) >= uint(p)
}

func (w *plain) settle(clock int) ([]int, int) {
	var gone []int
	missed := 0
	for _, id := range w.ids() {
		t := w.tasks[id]
		if !t.Active || !over(t.Release, t.P, clock) {
			continue
		}
		if t.Got != t.E {
			missed++
		}
		if t.Leaving {
			delete(w.tasks, id)
			gone = append(gone, id)
			continue
		}
		w.tasks[id] = Task{ID: id, E: t.E, P: t.P, Sporadic: t.Sporadic, Count: t.Count}
	}
	return gone, missed
}

func (w *plain) give(id int) bool {
	t, ok := w.tasks[id]
	if !ok || !t.Active || t.Got == t.E {
		return false
	}
	t.Got++
	w.tasks[id] = t
	return true
}

// alike holds that both have the same tasks, and that each is the same.
func alike(t *testing.T, j *Jobs, w *plain) {
	t.Helper()
	all(t, j, w.ids()...)
	for _, task := range w.tasks {
		is(t, j, task)
	}
	for id := range 12 {
		if _, ok := w.tasks[id]; !ok {
			none(t, j, id)
		}
	}
}

// step asks both one call.
func step(t *testing.T, r *rand.Rand, j *Jobs, w *plain, clock int) {
	t.Helper()
	id := r.Intn(12)
	switch r.Intn(8) {
	case 0:
		e, p, sporadic := r.Intn(5), r.Intn(8), r.Intn(2) == 0
		join(t, j, id, e, p, sporadic, w.join(id, e, p, sporadic))
	case 1:
		gone, err := w.leave(id)
		leave(t, j, id, gone, err)
	case 2:
		arrive(t, j, id, w.arrive(id))
	case 3:
		finish(t, j, id, w.finish(id))
	case 4:
		release(t, j, clock, w.release(clock)...)
	case 5:
		gone, missed := w.settle(clock)
		settle(t, j, clock, missed, gone...)
	default:
		give(t, j, id, w.give(id))
	}
}

// P12.1, P12.2, R3: long rows of calls, refused ones too, against the slow way.
func TestRows(t *testing.T) {
	for seed := range 200 {
		r := rand.New(rand.NewSource(int64(seed)))
		n := r.Intn(10)
		j, w := New(n), &plain{n: n, tasks: map[int]Task{}}
		clock := []int{0, -20, least, 1 << 32, most - 60}[seed%5]
		for range 400 {
			if clock < most {
				clock += r.Intn(2)
			}
			at := clock
			if seed%7 == 0 && r.Intn(10) == 0 {
				at = []int{least, -1, 0, 3, most}[r.Intn(5)]
			}
			step(t, r, j, w, at)
			alike(t, j, w)
			if t.Failed() {
				t.Fatalf("seed %d, clock %d", seed, at)
			}
		}
	}
}
