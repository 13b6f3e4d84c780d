package quantum

import (
	"math/rand"
	"testing"

	"evenhanded/api"
	"evenhanded/jobs"
)

// show checks one slot as it was shown: no core and no task twice, and no core that is none.
func show(t *testing.T, l []api.Piece, cores int) {
	t.Helper()
	var core [api.MaxCores]int
	id := map[int]int{}
	for _, p := range l {
		if p.Core < 0 || p.Core >= cores {
			t.Fatalf("no such core: %v", p)
		}
		core[p.Core]++
		id[p.ID]++
		if core[p.Core] > 1 || id[p.ID] > 1 {
			t.Fatalf("overlap: %v", l)
		}
	}
}

// lag checks how far from what it is due each job is at the clock.
func lag(t *testing.T, j *jobs.Jobs, clock int, early bool) {
	t.Helper()
	for _, id := range j.IDs() {
		x, _ := j.Task(id)
		if !x.Active {
			continue
		}
		// The lag times the period.
		far := (clock-x.Release)*x.E - x.Got*x.P
		if far >= x.P || !early && far <= -x.P {
			t.Fatalf("clock %d, early %v: %d by %d from what is due: %+v", clock, early, far, x.P, x)
		}
	}
}

// tick is one slot as chapter 15 has it called, checked ahead of it and behind it.
func tick(t *testing.T, q *Quantum, j *jobs.Jobs, clock, cores int, early bool) []int {
	t.Helper()
	j.Release(clock)
	lag(t, j, clock, early)
	show(t, q.Slot(j, clock), cores)
	lag(t, j, clock+1, early)
	gone, missed := j.Settle(clock + 1)
	if missed != 0 {
		t.Fatalf("clock %d, early %v: %d have missed", clock, early, missed)
	}
	return gone
}

// due runs the set for so many clocks.
func due(t *testing.T, set []weight, cores, clocks int, early bool) {
	t.Helper()
	j, q := of(t, set...), New(cores, early)
	for clock := range clocks {
		tick(t, q, j, clock, cores, early)
	}
	if t.Failed() {
		t.Fatal(set)
	}
}

// fill adds to the set what is left of the cores: sum by 5040 is what the set has.
func fill(set []weight, sum, cores int) []weight {
	for left := cores*5040 - sum; left > 0; {
		part := min(left, 5040)
		set = append(set, weight{part, 5040})
		left -= part
	}
	return set
}

// P15.2: each set of up to four tasks of short periods on as few cores as have room for it.
func TestShortPeriods(t *testing.T) {
	var all []weight
	for p := 1; p <= 5; p++ {
		for e := 1; e <= p; e++ {
			all = append(all, weight{e, p})
		}
	}
	var walk func(set []weight, from, sum int)
	walk = func(set []weight, from, sum int) {
		if len(set) > 0 {
			for _, early := range []bool{false, true} {
				due(t, set, (sum+59)/60, 60, early)
			}
		}
		if len(set) == 4 {
			return
		}
		for i := from; i < len(all); i++ {
			next := append(set[:len(set):len(set)], all[i])
			walk(next, i, sum+60*all[i].e/all[i].p)
		}
	}
	walk(nil, 0, 0)
}

// P15.2: full cores, many of them, with heavy tasks and light ones.
func TestFullCores(t *testing.T) {
	r := rand.New(rand.NewSource(152))
	for range 60 {
		cores, sum := 1+r.Intn(12), 0
		var set []weight
		for {
			p := 1 + r.Intn(10)
			if r.Intn(4) == 0 {
				p = []int{12, 14, 15, 16, 18, 20, 21, 24, 28, 30, 35, 36, 40, 42}[r.Intn(14)]
			}
			e := 1 + r.Intn(p)
			if sum+5040*e/p > cores*5040 {
				break
			}
			set = append(set, weight{e, p})
			sum += 5040 * e / p
		}
		set = fill(set, sum, cores)
		for _, early := range []bool{false, true} {
			due(t, set, cores, 600, early)
		}
	}
}

// P15.2: MaxCores cores, all of them full.
func TestMaxCores(t *testing.T) {
	var set []weight
	for range api.MaxCores / 4 {
		set = append(set, weight{2, 3}, weight{2, 3}, weight{2, 3}, weight{3, 4}, weight{3, 4}, weight{1, 2})
	}
	for _, early := range []bool{false, true} {
		due(t, set, api.MaxCores, 48, early)
	}
}

// P15.2: also where jobs come late, end ahead of time, and where tasks leave and join between.
func TestComeAndGo(t *testing.T) {
	r := rand.New(rand.NewSource(153))
	for range 120 {
		cores, early := 1+r.Intn(5), r.Intn(2) == 0
		j, q := jobs.New(99), New(cores, early)
		// left is by id what of 2520 each task has; room is what of the cores is free.
		left, room := map[int]int{}, cores*2520
		for clock := r.Intn(9); clock < 400; clock++ {
			for range 3 {
				id, p := r.Intn(30), 1+r.Intn(10)
				e := 1 + r.Intn(p)
				w := 2520 * e / p
				switch r.Intn(6) {
				case 0, 1:
					if w <= room && j.Join(id, e, p, r.Intn(2) == 0) == api.OK {
						left[id] = w
						room -= w
					}
				case 2:
					if r.Intn(3) > 0 {
						break
					}
					if gone, _ := j.Leave(id); gone {
						room += left[id]
					}
				case 3, 4:
					j.Arrive(id)
				case 5:
					j.Finish(id)
				}
			}
			for _, id := range tick(t, q, j, clock, cores, early) {
				room += left[id]
				q.Forget(id)
			}
		}
	}
}
