package whole

import (
	"math"
	"math/big"
	"math/rand"
	"testing"

	"evenhanded/api"
)

const (
	least = math.MinInt64
	most  = math.MaxInt64
)

type row struct {
	a, b, want int64
	err        api.Errno
}

type binary func(a, b int64) (int64, api.Errno)

func check(t *testing.T, name string, do binary, rows []row) {
	t.Helper()
	for _, r := range rows {
		if got, err := do(r.a, r.b); got != r.want || err != r.err {
			t.Errorf("%s(%d, %d): %d, %v, want %d, %v", name, r.a, r.b, got, err, r.want, r.err)
		}
	}
}

func TestAdd(t *testing.T) {
	check(t, "Add", Add, []row{
		{2, 3, 5, api.OK},
		{-2, -3, -5, api.OK},
		{0, 0, 0, api.OK},
		{most, 0, most, api.OK},
		{most, least, -1, api.OK},
		{most - 1, 1, most, api.OK},
		{least + 1, -1, least, api.OK},
		{least, 0, least, api.OK},
		{most, 1, 0, api.ErrOver},
		{1, most, 0, api.ErrOver},
		{most, most, 0, api.ErrOver},
		{least, -1, 0, api.ErrOver},
		{-1, least, 0, api.ErrOver},
		{least, least, 0, api.ErrOver},
	})
}

func TestMul(t *testing.T) {
	check(t, "Mul", Mul, []row{
		{6, 7, 42, api.OK},
		{6, -7, -42, api.OK},
		{-6, -7, 42, api.OK},
		{0, least, 0, api.OK},
		{least, 1, least, api.OK},
		{most, -1, -most, api.OK},
		{1 << 32, -1 << 31, least, api.OK},
		{3037000499, 3037000499, 9223372030926249001, api.OK},
		{least, -1, 0, api.ErrOver},
		{-1, least, 0, api.ErrOver},
		{1 << 32, 1 << 31, 0, api.ErrOver},
		{3037000500, 3037000500, 0, api.ErrOver},
		{1 << 32, 1 << 32, 0, api.ErrOver},
		{-1 << 32, 1 << 32, 0, api.ErrOver},
		{least, least, 0, api.ErrOver},
		{most, most, 0, api.ErrOver},
	})
}

func TestGcd(t *testing.T) {
	for _, r := range []struct{ a, b, want int64 }{
		{12, 18, 6},
		{-12, 18, 6},
		{-12, -18, 6},
		{7, 13, 1},
		{0, 5, 5},
		{-5, 0, 5},
		{0, 0, 0},
		{least, 6, 2},
		{least, most, 1},
		{least, -1 << 62, 1 << 62},
		{most, most, most},
		{-most, 0, most},
		{least, 0, 0},
		{0, least, 0},
		{least, least, 0},
	} {
		if got := Gcd(r.a, r.b); got != r.want {
			t.Errorf("Gcd(%d, %d): %d, want %d", r.a, r.b, got, r.want)
		}
	}
}

func TestLcm(t *testing.T) {
	check(t, "Lcm", Lcm, []row{
		{4, 6, 12, api.OK},
		{6, 4, 12, api.OK},
		{1, 1, 1, api.OK},
		{7, 13, 91, api.OK},
		{most, 1, most, api.OK},
		{most, most, most, api.OK},
		{1 << 61, 1 << 62, 1 << 62, api.OK},
		{most, 2, 0, api.ErrOver},
		{1 << 62, 3, 0, api.ErrOver},
		{most, most - 1, 0, api.ErrOver},
		{0, 5, 0, api.ErrArg},
		{5, 0, 0, api.ErrArg},
		{0, 0, 0, api.ErrArg},
		{-4, 6, 0, api.ErrArg},
		{4, -6, 0, api.ErrArg},
		{least, most, 0, api.ErrArg},
		{least, least, 0, api.ErrArg},
	})
}

func TestFloor(t *testing.T) {
	check(t, "Floor", Floor, []row{
		{7, 2, 3, api.OK},
		{-7, 2, -4, api.OK},
		{7, -2, -4, api.OK},
		{-7, -2, 3, api.OK},
		{6, 3, 2, api.OK},
		{-6, 3, -2, api.OK},
		{0, -5, 0, api.OK},
		{-1, most, -1, api.OK},
		{1, least, -1, api.OK},
		{least, 1, least, api.OK},
		{least, least, 1, api.OK},
		{most, -1, -most, api.OK},
		{least, -1, 0, api.ErrOver},
		{5, 0, 0, api.ErrArg},
		{0, 0, 0, api.ErrArg},
		{least, 0, 0, api.ErrArg},
	})
}

func TestCeil(t *testing.T) {
	check(t, "Ceil", Ceil, []row{
		{7, 2, 4, api.OK},
		{-7, 2, -3, api.OK},
		{7, -2, -3, api.OK},
		{-7, -2, 4, api.OK},
		{6, 3, 2, api.OK},
		{-6, 3, -2, api.OK},
		{0, -5, 0, api.OK},
		{1, most, 1, api.OK},
		{-1, least, 1, api.OK},
		{1, least, 0, api.OK},
		{most, 1, most, api.OK},
		{most, 2, 1 << 62, api.OK},
		{least, -1, 0, api.ErrOver},
		{5, 0, 0, api.ErrArg},
		{0, 0, 0, api.ErrArg},
		{least, 0, 0, api.ErrArg},
	})
}

func TestCross(t *testing.T) {
	for _, r := range []struct {
		a, b, c, d int64
		want       int
	}{
		{2, 3, 3, 2, 0},
		{2, 3, 7, 1, -1},
		{7, 1, 2, 3, 1},
		{-2, 3, 0, 1, -1},
		{-2, 3, -7, 1, 1},
		{-1, -1, 1, 1, 0},
		{0, 5, 0, -5, 0},
		{1 << 62, 4, 1 << 61, 8, 0},
		{1 << 32, 1 << 32, 0, 0, 1},
		{-1 << 32, 1 << 32, 0, 0, -1},
		{most, most, most, most - 1, 1},
		{most, -most, most, 1 - most, -1},
		{least, least, most, most, 1},
		{least, least, least, most, 1},
		{least, most, most, least, 0},
		{least, most, least, least, -1},
	} {
		if got := Cross(r.a, r.b, r.c, r.d); got != r.want {
			t.Errorf("Cross(%d, %d, %d, %d): %d, want %d", r.a, r.b, r.c, r.d, got, r.want)
		}
	}
}

func TestProduct(t *testing.T) {
	for _, r := range []struct {
		a, b, high int64
		low        uint64
	}{
		{6, 7, 0, 42},
		{0, least, 0, 0},
		{-6, 7, -1, 1<<64 - 42},
		{6, -7, -1, 1<<64 - 42},
		{-6, -7, 0, 42},
		{1 << 32, 1 << 32, 1, 0},
		{-1 << 32, 1 << 32, -1, 0},
		{most, most, 1<<62 - 1, 1},
		{most, -most, -1 << 62, 1<<64 - 1},
		{least, most, -1 << 62, 1 << 63},
		{least, least, 1 << 62, 0},
	} {
		if high, low := Product(r.a, r.b); high != r.high || low != r.low {
			t.Errorf("Product(%d, %d): %d, %d, want %d, %d", r.a, r.b, high, low, r.high, r.low)
		}
	}
}

// numbers are small ones, and those near the powers of two where halves, products and sums run over.
func numbers() []int64 {
	var l []int64
	for _, middle := range []int64{0, 6, 12, 1 << 31, 1 << 32, 3037000500, 1 << 61, 1 << 62} {
		for d := int64(-2); d <= 2; d++ {
			l = append(l, middle+d, -middle+d)
		}
	}
	l = append(l, least, least+1, least+2, most-2, most-1, most)
	r := rand.New(rand.NewSource(1))
	for range 40 {
		l = append(l, int64(r.Uint64())>>r.Intn(64))
	}
	return l
}

// fit answers what a call must answer whose exact result is x.
func fit(x *big.Int) (int64, api.Errno) {
	if !x.IsInt64() {
		return 0, api.ErrOver
	}
	return x.Int64(), api.OK
}

func exactFloor(a, b *big.Int) *big.Int {
	q, rest := new(big.Int).QuoRem(a, b, new(big.Int))
	if rest.Sign()*b.Sign() < 0 {
		q.Sub(q, big.NewInt(1))
	}
	return q
}

func exactCeil(a, b *big.Int) *big.Int {
	q := exactFloor(new(big.Int).Neg(a), b)
	return q.Neg(q)
}

func exactLcm(a, b *big.Int) *big.Int {
	m := new(big.Int).Mul(a, b)
	return m.Div(m, new(big.Int).GCD(nil, nil, a, b))
}

func checkPair(t *testing.T, a, b int64) {
	t.Helper()
	x, y := big.NewInt(a), big.NewInt(b)
	against := func(name string, do binary, refused bool, exact func() *big.Int) {
		want, err := int64(0), api.ErrArg
		if !refused {
			want, err = fit(exact())
		}
		check(t, name, do, []row{{a, b, want, err}})
	}
	against("Add", Add, false, func() *big.Int { return new(big.Int).Add(x, y) })
	against("Mul", Mul, false, func() *big.Int { return new(big.Int).Mul(x, y) })
	against("Floor", Floor, b == 0, func() *big.Int { return exactFloor(x, y) })
	against("Ceil", Ceil, b == 0, func() *big.Int { return exactCeil(x, y) })
	against("Lcm", Lcm, a < 1 || b < 1, func() *big.Int { return exactLcm(x, y) })
	gcd := new(big.Int).GCD(nil, nil, new(big.Int).Abs(x), new(big.Int).Abs(y))
	if want, _ := fit(gcd); Gcd(a, b) != want {
		t.Errorf("Gcd(%d, %d): %d, want %d", a, b, Gcd(a, b), want)
	}
}

func TestPairsAgainstExactNumbers(t *testing.T) {
	l := numbers()
	for _, a := range l {
		for _, b := range l {
			checkPair(t, a, b)
		}
	}
}

func TestCrossAgainstExactNumbers(t *testing.T) {
	l := numbers()
	r := rand.New(rand.NewSource(2))
	pick := func() int64 { return l[r.Intn(len(l))] }
	for range 200000 {
		a, b, c, d := pick(), pick(), pick(), pick()
		if r.Intn(4) == 0 {
			c = a // near products, which differ by their low halves alone
		}
		p := new(big.Int).Mul(big.NewInt(a), big.NewInt(b))
		q := new(big.Int).Mul(big.NewInt(c), big.NewInt(d))
		if got := Cross(a, b, c, d); got != p.Cmp(q) {
			t.Fatalf("Cross(%d, %d, %d, %d): %d, want %d", a, b, c, d, got, p.Cmp(q))
		}
	}
}
