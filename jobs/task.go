package jobs

import (
	"math"

	"evenhanded/api"
)

// Task is one of E in P, and what it does now. It has no link to where it was handed out.
type Task struct {
	ID, E, P                   int
	Sporadic, Leaving, Waiting bool
	Active                     bool
	Release, Got               int
	Done                       bool
	Count                      int
}

// may says whether e in p is a task at all.
func may(e, p int) bool {
	return e >= 1 && e <= p && p <= api.MaxPeriod
}

// ready says whether the task has a job at the next release. One that is leaving is Active, or it would be gone.
func (t *Task) ready() bool {
	return !t.Active && (!t.Sporadic || t.Waiting)
}

// begin gives the task its next job. Got and Done are zero: end has left them so.
func (t *Task) begin(clock int) {
	t.Active, t.Waiting = true, false
	t.Release = clock
	t.Count++
}

// end takes the job from the task.
func (t *Task) end() {
	t.Active, t.Done = false, false
	t.Release, t.Got = 0, 0
}

// full says whether the job has got all that it is due.
func (t *Task) full() bool {
	return t.Got == t.E
}

// deadline is when the job ends. Where that is later than any clock can be, it never does.
func (t *Task) deadline() (int, bool) {
	if t.Release > math.MaxInt-t.P {
		return 0, false
	}
	return t.Release + t.P, true
}
