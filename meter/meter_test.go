package meter

import (
	"math"
	"sync"
	"testing"
)

// none are numbers of no counter; some of them have the low bits of one that is there.
var none = []int{math.MinInt, math.MinInt + 1, -1 << 32, -256, -Size, -2, -1, Size, Size + 1, 255, 256, 257, 1<<16 + 1, 1 << 32, 1<<32 + 1, math.MaxInt - 1, math.MaxInt}

// numbers are what is added: none, little, much, and the ends of int64.
var numbers = []int64{0, 1, -1, 2, 3, -4, 255, 256, 1 << 31, 1<<31 - 1, -1 << 31, 1 << 32, 1<<53 + 1, math.MaxInt64, math.MinInt64, math.MaxInt64 - 1, math.MinInt64 + 1}

func add(t *testing.T, m *Meter, k int, n, want int64) {
	t.Helper()
	if got := m.Add(k, n); got != want {
		t.Errorf("Add(%d, %d): %d, want %d", k, n, got, want)
	}
}

func get(t *testing.T, m *Meter, k int, want int64) {
	t.Helper()
	if got := m.Get(k); got != want {
		t.Errorf("Get(%d): %d, want %d", k, got, want)
	}
}

// reads holds all counters against what they should be, each alone and in one row.
func reads(t *testing.T, m *Meter, want [Size]int64) {
	t.Helper()
	if got := m.All(); got != want {
		t.Errorf("All: %v, want %v", got, want)
	}
	for k, n := range want {
		get(t, m, k, n)
	}
}

// together runs so many at one time, from one start on, and waits for them.
func together(workers int, work func(worker int)) {
	start := make(chan struct{})
	var all sync.WaitGroup
	for w := range workers {
		all.Add(1)
		go func() {
			defer all.Done()
			<-start
			work(w)
		}()
	}
	close(start)
	all.Wait()
}

// P10.1: the chapter's example.
func TestExample(t *testing.T) {
	m := New()
	add(t, m, Ticks, 2, 2)
	add(t, m, Ticks, 3, 5)
}

// P10.1: which counters there are, and in which order.
func TestKinds(t *testing.T) {
	for want, k := range []int{Ticks, Migrations, Preemptions, Misses, Jobs, Size} {
		if k != want {
			t.Errorf("kind %d, want %d", k, want)
		}
	}
	if n := len(New().All()); n != 5 {
		t.Errorf("All: %d counters, want 5", n)
	}
}

// P10.1: a new one has counted nothing.
func TestNew(t *testing.T) {
	reads(t, New(), [Size]int64{})
}

// P10.1: each counter is what was added to it, and no other is touched.
func TestAdd(t *testing.T) {
	for k := range Size {
		m := New()
		var want [Size]int64
		for _, n := range numbers {
			want[k] += n
			add(t, m, k, n, want[k])
			reads(t, m, want)
		}
	}
}

// P10.1: all counters beside one another.
func TestAll(t *testing.T) {
	m := New()
	var want [Size]int64
	for i := range 10 * Size {
		k := i * 3 % Size
		n := int64(i*i - 7*i)
		want[k] += n
		add(t, m, k, n, want[k])
		reads(t, m, want)
	}
}

// P10.1: sums beyond int64 run round.
func TestRound(t *testing.T) {
	for k := range Size {
		m := New()
		add(t, m, k, math.MaxInt64, math.MaxInt64)
		add(t, m, k, 1, math.MinInt64)
		get(t, m, k, math.MinInt64)
		add(t, m, k, -1, math.MaxInt64)
		add(t, m, k, math.MaxInt64, -2)
		add(t, m, k, math.MinInt64, math.MaxInt64-1)
		add(t, m, k, math.MinInt64, -2)
		add(t, m, k, 2, 0)
		add(t, m, k, math.MinInt64, math.MinInt64)
		add(t, m, k, math.MinInt64, 0)
		reads(t, m, [Size]int64{})
	}
}

// P10.1, R3: what is no counter answers 0, and changes none that is there.
func TestNone(t *testing.T) {
	m := New()
	var want [Size]int64
	for k := range Size {
		want[k] = int64(100 + k)
		add(t, m, k, want[k], want[k])
	}
	for _, k := range none {
		for _, n := range numbers {
			add(t, m, k, n, 0)
			get(t, m, k, 0)
		}
		reads(t, m, want)
	}
}

// R4, R5: an answer is one's own, and each meter counts its own.
func TestApart(t *testing.T) {
	a, b := New(), New()
	if a == b {
		t.Fatal("New: the same one twice")
	}
	add(t, a, Jobs, 3, 3)
	reads(t, b, [Size]int64{})
	all := a.All()
	all[Jobs] = 9
	reads(t, a, [Size]int64{Jobs: 3})
	add(t, a, Jobs, 1, 4)
	if all[Jobs] != 9 {
		t.Errorf("an old answer has changed: %d, want 9", all[Jobs])
	}
	reads(t, New(), [Size]int64{})
}

// R7: a nil one answers zero values.
func TestNil(t *testing.T) {
	var m *Meter
	for _, k := range append([]int{Ticks, Migrations, Preemptions, Misses, Jobs}, none...) {
		for _, n := range numbers {
			add(t, m, k, n, 0)
		}
		get(t, m, k, 0)
	}
	reads(t, m, [Size]int64{})
}

// R1: one that New did not make is as one that New made.
func TestUnmade(t *testing.T) {
	var m Meter
	reads(t, &m, [Size]int64{})
	add(t, &m, Misses, 7, 7)
	add(t, &m, Size, 7, 0)
	reads(t, &m, [Size]int64{Misses: 7})
}

// P10.1: of what many add at one time nothing is lost.
func TestNothingLost(t *testing.T) {
	const workers, rounds = 16, 2000
	m := New()
	together(workers, func(w int) {
		for range rounds {
			for k := range Size {
				m.Add(k, int64(k+1))
			}
			m.Add(w%Size, -1)
			m.Add(Size, 1)
			m.Add(-1, 1)
		}
	})
	var want [Size]int64
	for k := range Size {
		want[k] = workers * rounds * int64(k+1)
	}
	for w := range workers {
		want[w%Size] -= rounds
	}
	reads(t, m, want)
}

// P10.1: what Add answers is the counter just behind its own sum, so no two that add 1 hear the same.
func TestEachSumOnce(t *testing.T) {
	const workers, rounds = 8, 20000
	m := New()
	heard := make([][]int64, workers)
	together(workers, func(w int) {
		for range rounds {
			heard[w] = append(heard[w], m.Add(Jobs, 1))
		}
	})
	seen := make([]bool, workers*rounds+1)
	for w, row := range heard {
		last := int64(0)
		for _, n := range row {
			if n <= last || n > workers*rounds || seen[n] {
				t.Fatalf("worker %d: %d behind %d", w, n, last)
			}
			seen[n] = true
			last = n
		}
	}
	reads(t, m, [Size]int64{Jobs: workers * rounds})
}

// P10.1: Get and All may be asked while others add: no number is told that never was, and none that is less than one told before.
func TestReadBeside(t *testing.T) {
	const writers, readers, rounds = 4, 4, 2000
	// A step that has bits in both halves: half a sum would show.
	const step = 1<<32 + 1
	m := New()
	together(writers+readers, func(w int) {
		if w < writers {
			for range rounds {
				for k := range Size {
					m.Add(k, step)
				}
			}
			return
		}
		var last [Size]int64
		for range rounds {
			all := m.All()
			for k, n := range all {
				behind := m.Get(k)
				if n < last[k] || behind < n || n%step != 0 || behind%step != 0 || behind > writers*rounds*step {
					t.Errorf("counter %d: All %d, then Get %d, behind %d", k, n, behind, last[k])
				}
				last[k] = behind
			}
		}
	})
	reads(t, m, [Size]int64{writers * rounds * step, writers * rounds * step, writers * rounds * step, writers * rounds * step, writers * rounds * step})
}

// P10.1: All reads one after another: of two that are added to from the last to the first, the one read later is not behind.
func TestOneAfterAnother(t *testing.T) {
	const rounds = 200000
	m := New()
	together(2, func(w int) {
		for range rounds {
			if w == 0 {
				for k := Size - 1; k >= 0; k-- {
					m.Add(k, 1)
				}
				continue
			}
			all := m.All()
			for k := 1; k < Size; k++ {
				if all[k] < all[k-1] {
					t.Errorf("All: %v: counter %d is behind the one ahead of it", all, k)
					return
				}
			}
		}
	})
	reads(t, m, [Size]int64{rounds, rounds, rounds, rounds, rounds})
}
