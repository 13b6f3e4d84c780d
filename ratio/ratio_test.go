package ratio

import (
	"math"
	"math/big"
	"math/rand"
	"testing"

	"evenhanded/api"
)

const (
	least = math.MinInt64
	most  = math.MaxInt64
)

func rat(n, d int64) api.Rat { return api.Rat{N: n, D: d} }

type row struct {
	a, b, want api.Rat
	err        api.Errno
}

type binary func(a, b api.Rat) (api.Rat, api.Errno)

func check(t *testing.T, name string, do binary, rows []row) {
	t.Helper()
	for _, r := range rows {
		if got, err := do(r.a, r.b); got != r.want || err != r.err {
			t.Errorf("%s(%v, %v): %v, %v, want %v, %v", name, r.a, r.b, got, err, r.want, r.err)
		}
	}
}

// wrong are values that are no rationals.
func wrong() []api.Rat {
	return []api.Rat{
		{}, rat(1, 0), rat(least, 0), rat(most, 0),
		rat(1, -2), rat(-1, -1), rat(0, -1), rat(1, least), rat(0, least), rat(least, least),
		rat(0, 2), rat(0, most), rat(2, 4), rat(-2, 4), rat(6, 9), rat(3, 3), rat(most, most), rat(-most, most), rat(least, 2), rat(least, 1<<62),
	}
}

func TestMay(t *testing.T) {
	for _, a := range []api.Rat{
		rat(0, 1), rat(1, 1), rat(-1, 1), rat(1, 2), rat(-3, 2), rat(8, 9),
		rat(least, 1), rat(least, 3), rat(least, most), rat(most, 1), rat(most, 1<<62), rat(1, most), rat(most-1, most),
	} {
		if !May(a) {
			t.Errorf("May(%v): false", a)
		}
	}
	for _, a := range wrong() {
		if May(a) {
			t.Errorf("May(%v): true", a)
		}
	}
}

func TestOf(t *testing.T) {
	for _, r := range []struct {
		n, d int64
		want api.Rat
		err  api.Errno
	}{
		{6, 4, rat(3, 2), api.OK},
		{-6, 4, rat(-3, 2), api.OK},
		{6, -4, rat(-3, 2), api.OK},
		{-6, -4, rat(3, 2), api.OK},
		{5, 7, rat(5, 7), api.OK},
		{0, 9, rat(0, 1), api.OK},
		{0, -9, rat(0, 1), api.OK},
		{0, least, rat(0, 1), api.OK},
		{least, 1, rat(least, 1), api.OK},
		{least, 3, rat(least, 3), api.OK},
		{least, 2, rat(-1<<62, 1), api.OK},
		{least, -2, rat(1<<62, 1), api.OK},
		{least, least, rat(1, 1), api.OK},
		{2, least, rat(-1, 1<<62), api.OK},
		{-6, least, rat(3, 1<<62), api.OK},
		{-1 << 62, least, rat(1, 2), api.OK},
		{most, most, rat(1, 1), api.OK},
		{most, -most, rat(-1, 1), api.OK},
		{most, -1, rat(-most, 1), api.OK},
		{1, -most, rat(-1, most), api.OK},
		{least, -1, rat(0, 0), api.ErrOver},
		{least, -3, rat(0, 0), api.ErrOver},
		{1, least, rat(0, 0), api.ErrOver},
		{-1, least, rat(0, 0), api.ErrOver},
		{most, least, rat(0, 0), api.ErrOver},
		{5, 0, rat(0, 0), api.ErrArg},
		{0, 0, rat(0, 0), api.ErrArg},
		{least, 0, rat(0, 0), api.ErrArg},
	} {
		if got, err := Of(r.n, r.d); got != r.want || err != r.err {
			t.Errorf("Of(%d, %d): %v, %v, want %v, %v", r.n, r.d, got, err, r.want, r.err)
		}
	}
}

func TestAdd(t *testing.T) {
	check(t, "Add", Add, []row{
		{rat(1, 6), rat(1, 3), rat(1, 2), api.OK},
		{rat(1, 6), rat(-1, 6), rat(0, 1), api.OK},
		{rat(-1, 2), rat(1, 3), rat(-1, 6), api.OK},
		{rat(0, 1), rat(3, 7), rat(3, 7), api.OK},
		{rat(most, 2), rat(most, 2), rat(most, 1), api.OK},
		{rat(1, most), rat(1, most), rat(2, most), api.OK},
		{rat(least, 1), rat(most, 1), rat(-1, 1), api.OK},
		{rat(-1<<62, 1), rat(-1<<62, 1), rat(least, 1), api.OK},
		{rat(least, 3), rat(least, 3), rat(0, 0), api.ErrOver},
		{rat(1, 3<<40), rat(5, 3<<40), rat(1, 1<<39), api.OK},
		{rat(1, 1<<40), rat(1, 3<<40), rat(1, 3<<38), api.OK},
		{rat(1<<60+1, 1<<62), rat(-1, 1<<62), rat(1, 4), api.OK},
		// The denominators' least common multiple is no int64, but what comes is one.
		{rat(1, 3<<60), rat(1, 5<<60), rat(1, 15<<57), api.OK},
		{rat(1, 3<<60), rat(-1, 5<<60), rat(1, 15<<59), api.OK},
		{rat(1, 5<<60), rat(-1, 7<<60), rat(0, 0), api.ErrOver},
		{rat(most, 1), rat(1, 1), rat(0, 0), api.ErrOver},
		{rat(least, 1), rat(-1, 1), rat(0, 0), api.ErrOver},
		{rat(least, 1), rat(least, 1), rat(0, 0), api.ErrOver},
		{rat(1, most), rat(1, most-1), rat(0, 0), api.ErrOver},
		{rat(1, 3037000500), rat(-1, 3037000501), rat(0, 0), api.ErrOver},
		{rat(most, 1), rat(1, 2), rat(0, 0), api.ErrOver},
		{rat(most, 2), rat(least, 3), rat(most-2, 6), api.OK},
	})
}

func TestSub(t *testing.T) {
	check(t, "Sub", Sub, []row{
		{rat(1, 2), rat(1, 3), rat(1, 6), api.OK},
		{rat(1, 3), rat(1, 2), rat(-1, 6), api.OK},
		{rat(1, 2), rat(1, 2), rat(0, 1), api.OK},
		{rat(-1, 1), rat(least, 1), rat(most, 1), api.OK},
		{rat(least, 3), rat(least, 3), rat(0, 1), api.OK},
		{rat(least, 1), rat(0, 1), rat(least, 1), api.OK},
		{rat(-1, 1), rat(most, 1), rat(least, 1), api.OK},
		{rat(5, 3<<40), rat(-1, 3<<40), rat(1, 1<<39), api.OK},
		{rat(0, 1), rat(least, 1), rat(0, 0), api.ErrOver},
		{rat(0, 1), rat(least, 3), rat(0, 0), api.ErrOver},
		{rat(-2, 1), rat(most, 1), rat(0, 0), api.ErrOver},
		{rat(most, 3), rat(-most, 3), rat(0, 0), api.ErrOver},
		{rat(most, 1), rat(least, 1), rat(0, 0), api.ErrOver},
		{rat(1, most), rat(1, most-1), rat(0, 0), api.ErrOver},
	})
}

func TestMul(t *testing.T) {
	check(t, "Mul", Mul, []row{
		{rat(2, 3), rat(3, 4), rat(1, 2), api.OK},
		{rat(-2, 3), rat(3, 4), rat(-1, 2), api.OK},
		{rat(-2, 3), rat(-3, 4), rat(1, 2), api.OK},
		{rat(-1, 2), rat(0, 1), rat(0, 1), api.OK},
		{rat(0, 1), rat(least, most), rat(0, 1), api.OK},
		{rat(most, 2), rat(2, most), rat(1, 1), api.OK},
		{rat(least, 1), rat(-1, 2), rat(1<<62, 1), api.OK},
		{rat(least, 1), rat(1, 1), rat(least, 1), api.OK},
		{rat(1<<32, 3), rat(-3<<31, 1), rat(least, 1), api.OK},
		{rat(1<<40, 3), rat(1<<40, 7), rat(0, 0), api.ErrOver},
		{rat(1, 1<<40), rat(1, 1<<40), rat(0, 0), api.ErrOver},
		{rat(least, 1), rat(-1, 1), rat(0, 0), api.ErrOver},
		{rat(least, 3), rat(least, 5), rat(0, 0), api.ErrOver},
		{rat(1<<32, 1), rat(1<<31, 1), rat(0, 0), api.ErrOver},
	})
}

func TestWrongOperands(t *testing.T) {
	doers := map[string]binary{"Add": Add, "Sub": Sub, "Mul": Mul}
	// The last would run over as well: what may not be is told first.
	for _, good := range []api.Rat{rat(0, 1), rat(1, 3), rat(-5, 2), rat(least, most), rat(most, 1)} {
		for _, bad := range wrong() {
			for name, do := range doers {
				check(t, name, do, []row{
					{good, bad, api.Rat{}, api.ErrArg},
					{bad, good, api.Rat{}, api.ErrArg},
					{bad, bad, api.Rat{}, api.ErrArg},
				})
			}
			if x, y, z := Cmp(good, bad), Cmp(bad, good), Cmp(bad, rat(least, 1)); x != 0 || y != 0 || z != 0 {
				t.Errorf("Cmp of %v and %v: %d, %d, %d, want 0", good, bad, x, y, z)
			}
		}
	}
	for _, bad := range wrong() {
		if down, up := Floor(bad), Ceil(bad); down != 0 || up != 0 {
			t.Errorf("Floor, Ceil of %v: %d, %d, want 0", bad, down, up)
		}
	}
}

func TestCmp(t *testing.T) {
	for _, r := range []struct {
		a, b api.Rat
		want int
	}{
		{rat(1, 2), rat(1, 3), 1},
		{rat(1, 3), rat(1, 2), -1},
		{rat(-1, 2), rat(-1, 3), -1},
		{rat(5, 7), rat(5, 7), 0},
		{rat(0, 1), rat(0, 1), 0},
		{rat(-1, most), rat(1, most), -1},
		{rat(most, most-1), rat(most-1, most-2), -1},
		{rat(most-1, most), rat(most-2, most-1), 1},
		{rat(least, 1), rat(most, 1), -1},
		{rat(least, 1), rat(least, 3), -1},
		{rat(least, most), rat(-1, 1), -1},
		{rat(least, most), rat(least, most), 0},
	} {
		if got := Cmp(r.a, r.b); got != r.want {
			t.Errorf("Cmp(%v, %v): %d, want %d", r.a, r.b, got, r.want)
		}
	}
}

func TestFloorAndCeil(t *testing.T) {
	for _, r := range []struct {
		a        api.Rat
		down, up int64
	}{
		{rat(0, 1), 0, 0},
		{rat(7, 1), 7, 7},
		{rat(-7, 1), -7, -7},
		{rat(7, 2), 3, 4},
		{rat(-7, 2), -4, -3},
		{rat(1, most), 0, 1},
		{rat(-1, most), -1, 0},
		{rat(least, 1), least, least},
		{rat(most, 1), most, most},
		{rat(most, 2), 1<<62 - 1, 1 << 62},
		{rat(least, 3), -3074457345618258603, -3074457345618258602},
		{rat(least, most), -2, -1},
	} {
		if down, up := Floor(r.a), Ceil(r.a); down != r.down || up != r.up {
			t.Errorf("Floor, Ceil of %v: %d, %d, want %d, %d", r.a, down, up, r.down, r.up)
		}
	}
}

// parts are numbers small and great, with many divisors in common, and those at the ends.
func parts() []int64 {
	l := []int64{least, least + 1, least + 2, most - 2, most - 1, most}
	for _, middle := range []int64{0, 6, 1 << 20, 3 << 30, 3037000500, 15 << 40, 3 << 59, 1 << 62} {
		for d := int64(-1); d <= 1; d++ {
			l = append(l, middle+d, -middle+d)
		}
	}
	r := rand.New(rand.NewSource(1))
	for range 20 {
		l = append(l, int64(r.Uint64())>>r.Intn(64))
	}
	return l
}

// fit answers what a call must answer whose exact result is x.
func fit(x *big.Rat) (api.Rat, api.Errno) {
	if !x.Num().IsInt64() || !x.Denom().IsInt64() {
		return api.Rat{}, api.ErrOver
	}
	return rat(x.Num().Int64(), x.Denom().Int64()), api.OK
}

func exact(a api.Rat) *big.Rat { return big.NewRat(a.N, a.D) }

// TestPartsAgainstExactNumbers: all that asks one rational, of every two parts, those that may not be too.
func TestPartsAgainstExactNumbers(t *testing.T) {
	for _, n := range parts() {
		for _, d := range parts() {
			if d == 0 {
				continue // big.Rat cannot; TestOf and TestMay have it
			}
			x := big.NewRat(n, d)
			want, wantErr := fit(x)
			if got, err := Of(n, d); got != want || err != wantErr {
				t.Errorf("Of(%d, %d): %v, %v, want %v, %v", n, d, got, err, want, wantErr)
			}
			a := rat(n, d)
			may := wantErr == api.OK && a == want
			if May(a) != may {
				t.Errorf("May(%v): %v, want %v", a, May(a), may)
			}
			down, up := int64(0), int64(0)
			if may {
				down = new(big.Int).Div(x.Num(), x.Denom()).Int64() // Euclid's: down, where the denominator is above 0
				up = down
				if !x.IsInt() {
					up++
				}
			}
			if Floor(a) != down || Ceil(a) != up {
				t.Errorf("Floor, Ceil of %v: %d, %d, want %d, %d", a, Floor(a), Ceil(a), down, up)
			}
		}
	}
}

func checkPair(t *testing.T, a, b api.Rat) {
	t.Helper()
	x, y := exact(a), exact(b)
	against := func(name string, do binary, exact *big.Rat) {
		want, err := fit(exact)
		check(t, name, do, []row{{a, b, want, err}})
	}
	against("Add", Add, new(big.Rat).Add(x, y))
	against("Sub", Sub, new(big.Rat).Sub(x, y))
	against("Mul", Mul, new(big.Rat).Mul(x, y))
	if got := Cmp(a, b); got != x.Cmp(y) {
		t.Errorf("Cmp(%v, %v): %d, want %d", a, b, got, x.Cmp(y))
	}
}

// rationals are all of the parts that may be.
func rationals() []api.Rat {
	var l []api.Rat
	for _, n := range parts() {
		for _, d := range parts() {
			if a, err := Of(n, d); err == api.OK {
				l = append(l, a)
			}
		}
	}
	return l
}

func TestPairsAgainstExactNumbers(t *testing.T) {
	l := rationals()
	r := rand.New(rand.NewSource(2))
	for range 100000 {
		checkPair(t, l[r.Intn(len(l))], l[r.Intn(len(l))])
	}
}

// TestNearPairsAgainstExactNumbers: results near the ends of int64, made backwards: b is what is missing from a to some c that just fits.
func TestNearPairsAgainstExactNumbers(t *testing.T) {
	l := rationals()
	r := rand.New(rand.NewSource(3))
	step := func(a api.Rat) api.Rat {
		n := a.N + int64(r.Intn(3)-1)
		if b, err := Of(n, a.D); err == api.OK {
			return b
		}
		return a
	}
	near := 0
	for range 100000 {
		a, c := l[r.Intn(len(l))], l[r.Intn(len(l))]
		if b, err := fit(new(big.Rat).Sub(exact(c), exact(a))); err == api.OK {
			near++
			checkPair(t, a, b)
			checkPair(t, b, a)
			checkPair(t, a, step(b))
			checkPair(t, c, b)
		}
	}
	if near < 1000 {
		t.Errorf("only %d near pairs: the test is too weak", near)
	}
}
