package window

import (
	"math"
	"math/big"
	"math/rand"
	"testing"

	"evenhanded/api"
)

const (
	least = math.MinInt
	most  = math.MaxInt
	limit = api.MaxPeriod
)

// answers are all that the package says of one quantum.
type answers struct {
	may, heavy                    bool
	release, deadline, bit, group int
}

func ask(e, p, i int) answers {
	return answers{May(e, p, i), Heavy(e, p), Release(e, p, i), Deadline(e, p, i), Bit(e, p, i), Group(e, p, i)}
}

type row struct {
	e, p, i int
	want    answers
}

func check(t *testing.T, rows []row) {
	t.Helper()
	for _, r := range rows {
		if got := ask(r.e, r.p, r.i); got != r.want {
			t.Errorf("%d in %d, quantum %d: %+v, want %+v", r.e, r.p, r.i, got, r.want)
		}
	}
}

// P3.1 and P3.2: numbers reckoned by hand.
func TestWindows(t *testing.T) {
	check(t, []row{
		{8, 11, 1, answers{true, true, 0, 2, 1, 4}},
		{8, 11, 2, answers{true, true, 1, 3, 1, 4}},
		{8, 11, 3, answers{true, true, 2, 5, 1, 8}},
		{8, 11, 5, answers{true, true, 5, 7, 1, 8}},
		{8, 11, 6, answers{true, true, 6, 9, 1, 11}},
		{8, 11, 8, answers{true, true, 9, 11, 0, 11}},
		{2, 5, 1, answers{true, false, 0, 3, 1, 0}},
		{2, 5, 2, answers{true, false, 2, 5, 0, 0}},
		{3, 5, 1, answers{true, true, 0, 2, 1, 3}},
		{3, 5, 2, answers{true, true, 1, 4, 1, 5}},
		{3, 5, 3, answers{true, true, 3, 5, 0, 5}},
		{4, 6, 2, answers{true, true, 1, 3, 0, 3}},
		{1, 7, 1, answers{true, false, 0, 7, 0, 0}},
	})
}

// P3.1 and P3.2: half of the time is heavy, a quantum less is not.
func TestHalf(t *testing.T) {
	check(t, []row{
		{1, 2, 1, answers{true, true, 0, 2, 0, 2}},
		{1, 3, 1, answers{true, false, 0, 3, 0, 0}},
		{3, 6, 1, answers{true, true, 0, 2, 0, 2}},
		{3, 6, 3, answers{true, true, 4, 6, 0, 6}},
		{2, 6, 2, answers{true, false, 3, 6, 0, 0}},
		{3, 7, 2, answers{true, false, 2, 5, 1, 0}},
		{4, 7, 2, answers{true, true, 1, 4, 1, 5}},
		{limit / 2, limit, 1, answers{true, false, 0, 3, 1, 0}},
		{limit/2 + 1, limit, 1, answers{true, true, 0, 2, 1, 3}},
	})
}

// P3.1 and P3.2: who has all of the time is heavy, and has no group deadline.
func TestFull(t *testing.T) {
	check(t, []row{
		{1, 1, 1, answers{true, true, 0, 1, 0, 0}},
		{5, 5, 1, answers{true, true, 0, 1, 0, 0}},
		{5, 5, 5, answers{true, true, 4, 5, 0, 0}},
		{4, 5, 1, answers{true, true, 0, 2, 1, 5}},
		{limit, limit, 1, answers{true, true, 0, 1, 0, 0}},
		{limit, limit, limit, answers{true, true, limit - 1, limit, 0, 0}},
	})
}

// P3.1 and P3.2: at MaxPeriod all is well.
func TestLimit(t *testing.T) {
	check(t, []row{
		{1, limit, 1, answers{true, false, 0, limit, 0, 0}},
		{2, limit, 1, answers{true, false, 0, limit/2 + 1, 1, 0}},
		{2, limit, 2, answers{true, false, limit / 2, limit, 0, 0}},
		{limit - 1, limit, 1, answers{true, true, 0, 2, 1, limit}},
		{limit - 1, limit, limit - 1, answers{true, true, limit - 2, limit, 0, limit}},
	})
}

// P3.1 and P3.2: of what may not be all is 0 and false.
func TestWrong(t *testing.T) {
	none := answers{}
	check(t, []row{
		{0, 0, 0, none}, {0, 0, 1, none}, {0, 5, 0, none}, {0, 5, 1, none}, {0, 1, 1, none},
		{1, 0, 1, none}, {-1, 5, 1, none}, {-1, -1, -1, none}, {-5, -3, -5, none}, {-3, -2, 1, none}, {1, -1, 1, none},
		{6, 5, 1, none}, {2, 1, 1, none}, {2, 1, 2, none},
		{1, limit + 1, 1, none}, {limit, limit + 1, 1, none}, {limit + 1, limit + 1, 1, none}, {limit + 1, limit, 1, none}, {limit + 1, limit, limit + 1, none},
		{1, most, 1, none}, {most, most, most, none}, {most/2 + 1, most, 1, none}, {most, 1, 1, none},
		{least, least, least, none}, {least, most, 1, none}, {least, 1, 1, none}, {1, least, 1, none},
	})
}

// P3.1 and P3.2: the place of a quantum is no matter of Heavy, and of all else.
func TestWrongPlace(t *testing.T) {
	light, heavy := answers{}, answers{heavy: true}
	check(t, []row{
		{2, 5, 0, light}, {2, 5, 3, light}, {2, 5, -1, light}, {2, 5, most, light}, {2, 5, least, light},
		{3, 4, 0, heavy}, {3, 4, 4, heavy}, {3, 4, 9, heavy}, {3, 4, -1, heavy}, {3, 4, most, heavy}, {3, 4, least, heavy},
		{1, 1, 0, heavy}, {1, 1, 2, heavy}, {limit, limit, 0, heavy}, {limit, limit, limit + 1, heavy},
		{limit - 1, limit, 0, heavy}, {limit - 1, limit, limit, heavy}, {1, limit, 2, light}, {1, limit, 0, light},
	})
}

// follow holds P3.3 of one quantum of a job.
func follow(t *testing.T, e, p, i int) {
	t.Helper()
	a := ask(e, p, i)
	if i == 1 && a.release != 0 || i == e && (a.deadline != p || a.bit != 0) {
		t.Fatalf("%d in %d, quantum %d: %+v", e, p, i, a)
	}
	if i < e && a.deadline-Release(e, p, i+1) != a.bit {
		t.Fatalf("%d in %d, quantum %d: %+v, and the next is released at %d", e, p, i, a, Release(e, p, i+1))
	}
	if grouped := a.heavy && e < p; grouped && (a.group < a.deadline || a.group > p) || !grouped && a.group != 0 {
		t.Fatalf("%d in %d, quantum %d: %+v", e, p, i, a)
	}
}

// P3.3: windows follow each other, of each task up to a period, and of long ones.
func TestFollow(t *testing.T) {
	for p := 1; p <= 48; p++ {
		for e := 1; e <= p; e++ {
			for i := 1; i <= e; i++ {
				follow(t, e, p, i)
			}
		}
	}
	for _, e := range []int{1, 2, 3, 1 << 10, limit / 3, limit / 2, limit/2 + 1, limit - 2, limit - 1, limit} {
		for _, i := range []int{1, 2, 3, e / 2, e - 1, e} {
			if May(e, limit, i) {
				follow(t, e, limit, i)
			}
		}
	}
}

// slowGroup goes forward from the deadline to the end of the row: a window that has no slot in common with the next one's, or the slot ahead of the last one of a window of three.
func slowGroup(e, p, i int) int {
	for t := Deadline(e, p, i); ; t++ {
		for k := i; k <= e; k++ {
			r, d := Release(e, p, k), Deadline(e, p, k)
			if t == d && Bit(e, p, k) == 0 || t+1 == d && d-r == 3 {
				return t
			}
		}
	}
}

// P3.2: what the formula says is where the row of windows of two slots ends.
func TestGroupEndsRow(t *testing.T) {
	for p := 2; p <= 40; p++ {
		for e := (p + 1) / 2; e < p; e++ {
			for i := 1; i <= e; i++ {
				if got, want := Group(e, p, i), slowGroup(e, p, i); got != want {
					t.Fatalf("%d in %d, quantum %d: group deadline %d, the row ends at %d", e, p, i, got, want)
				}
			}
		}
	}
}

// quotient is a b by c, rounded down, and whether it is whole, by exact numbers.
func quotient(a, b, c int) (int, bool) {
	n := new(big.Int).Mul(big.NewInt(int64(a)), big.NewInt(int64(b)))
	q, r := n.QuoRem(n, big.NewInt(int64(c)), new(big.Int))
	return int(q.Int64()), r.Sign() == 0
}

func quotientUp(a, b, c int) int {
	q, whole := quotient(a, b, c)
	if whole {
		return q
	}
	return q + 1
}

// exact is what the document says, of a quantum that may be.
func exact(e, p, i int) answers {
	a := answers{may: true, heavy: e >= p-e, deadline: quotientUp(i, p, e)}
	a.release, _ = quotient(i-1, p, e)
	if _, whole := quotient(i, p, e); !whole {
		a.bit = 1
	}
	if a.heavy && e < p {
		a.group = quotientUp(quotientUp(a.deadline, p-e, p), p, p-e)
	}
	return a
}

// P3.1, P3.2 and P3.3: any numbers, long periods among them, held against exact ones.
func TestAny(t *testing.T) {
	r := rand.New(rand.NewSource(3))
	for range 200000 {
		p := 1 + r.Intn(limit)>>r.Intn(20)
		e := 1 + r.Intn(p)
		i := 1 + r.Intn(e)
		if got, want := ask(e, p, i), exact(e, p, i); got != want {
			t.Fatalf("%d in %d, quantum %d: %+v, want %+v", e, p, i, got, want)
		}
		follow(t, e, p, i)
	}
}
