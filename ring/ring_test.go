package ring

import (
	"math"
	"slices"
	"sync"
	"testing"

	"evenhanded/api"
)

// far are numbers of no entry; some of them have the low bits of one that is there.
var far = []int64{math.MinInt64, math.MinInt64 + 1, -1 << 62, -1 << 32, 1 - 1<<32, -api.MaxRing, -3, -2, -1, 1 << 32, 1<<32 + 1, 1 << 62, math.MaxInt64 - 1, math.MaxInt64}

// clocks are what is put with a piece: none is refused.
var clocks = []int{0, 1, -1, 7, api.Horizon, api.Horizon + 1, math.MinInt, math.MaxInt}

// piece is one whose fields all hang on i, so that no two are alike.
func piece(i int) api.Piece {
	n := int64(i)
	return api.Piece{Engine: i, Core: i + 1, ID: i + 2, From: api.Rat{N: n + 3, D: n + 4}, To: api.Rat{N: n + 5, D: n + 6}, Slack: i%2 == 1}
}

// row is the plain row of all that was put, of which the last n count.
type row struct {
	n   int
	all []Entry
}

func (w *row) put(clock int, p api.Piece) int64 {
	seq := int64(len(w.all))
	w.all = append(w.all, Entry{Seq: seq, Clock: clock, Piece: p})
	return seq
}

func (w *row) kept() []Entry {
	return w.all[max(len(w.all)-w.n, 0):]
}

func (w *row) get(seq int64) (Entry, bool) {
	for _, e := range w.kept() {
		if e.Seq == seq {
			return e, true
		}
	}
	return Entry{}, false
}

func (w *row) since(seq int64) []Entry {
	var some []Entry
	for _, e := range w.kept() {
		if e.Seq >= seq {
			some = append(some, e)
		}
	}
	return some
}

func put(t *testing.T, r *Ring, clock int, p api.Piece, want int64) {
	t.Helper()
	if got := r.Put(clock, p); got != want {
		t.Errorf("Put(%d, %v): %d, want %d", clock, p, got, want)
	}
}

func next(t *testing.T, r *Ring, want int64) {
	t.Helper()
	if got := r.Next(); got != want {
		t.Errorf("Next: %d, want %d", got, want)
	}
}

func get(t *testing.T, r *Ring, seq int64, want Entry, kept bool) {
	t.Helper()
	if got, ok := r.Get(seq); got != want || ok != kept {
		t.Errorf("Get(%d): %v %v, want %v %v", seq, got, ok, want, kept)
	}
}

func since(t *testing.T, r *Ring, seq int64, want []Entry) {
	t.Helper()
	if got := r.Since(seq); !slices.Equal(got, want) {
		t.Errorf("Since(%d): %v, want %v", seq, got, want)
	}
}

// reads holds a ring against a plain row: at the numbers about both ends of what is kept, and at far ones.
func reads(t *testing.T, r *Ring, w *row) {
	t.Helper()
	end := int64(len(w.all))
	next(t, r, end)
	near := []int64{0, 1, end - int64(w.n) - 1, end - int64(w.n), end - int64(w.n) + 1, end - 2, end - 1, end, end + 1, end + int64(w.n)}
	for _, seq := range append(near, far...) {
		e, ok := w.get(seq)
		get(t, r, seq, e, ok)
		since(t, r, seq, w.since(seq))
	}
}

// P11.1: the chapter's example.
func TestExample(t *testing.T) {
	r := New(2)
	for i := range 3 {
		put(t, r, i, piece(i), int64(i))
	}
	get(t, r, 0, Entry{}, false)
	get(t, r, 1, Entry{Seq: 1, Clock: 1, Piece: piece(1)}, true)
	get(t, r, 2, Entry{Seq: 2, Clock: 2, Piece: piece(2)}, true)
}

// P11.1: nothing is kept of a new one, and 0 comes next.
func TestNew(t *testing.T) {
	for _, n := range []int{0, 1, 2, 3, api.MaxRing} {
		reads(t, New(n), &row{n: n})
	}
}

// P11.1: the last n are kept, behind each Put, from the first on and a few times round.
func TestLast(t *testing.T) {
	for n := range 8 {
		r, w := New(n), &row{n: n}
		for i := range 4*n + 3 {
			clock := clocks[i%len(clocks)]
			put(t, r, clock, piece(i), w.put(clock, piece(i)))
			reads(t, r, w)
		}
	}
}

// P11.1: each number is asked, not those about the ends alone.
func TestEach(t *testing.T) {
	for _, n := range []int{1, 5, 16, 17} {
		r, w := New(n), &row{n: n}
		for i := range 40 {
			put(t, r, -i, piece(i), w.put(-i, piece(i)))
			for seq := range int64(45) {
				e, ok := w.get(seq)
				get(t, r, seq, e, ok)
				since(t, r, seq, w.since(seq))
			}
		}
	}
}

// P11.1: below 0 is 0, above MaxRing is MaxRing; MaxRing itself and what is about it.
func TestSize(t *testing.T) {
	for _, c := range []struct{ n, kept int }{
		{math.MinInt, 0}, {-1<<32 + 3, 0}, {-api.MaxRing, 0}, {-1, 0}, {0, 0}, {1, 1},
		{api.MaxRing - 1, api.MaxRing - 1}, {api.MaxRing, api.MaxRing}, {api.MaxRing + 1, api.MaxRing},
		{2 * api.MaxRing, api.MaxRing}, {1 << 32, api.MaxRing}, {1<<32 + 3, api.MaxRing}, {math.MaxInt, api.MaxRing},
	} {
		r, w := New(c.n), &row{n: c.kept}
		for i := range api.MaxRing + 2 {
			put(t, r, i, piece(i), w.put(i, piece(i)))
		}
		if got := len(r.Since(math.MinInt64)); got != c.kept {
			t.Errorf("New(%d): %d are kept, want %d", c.n, got, c.kept)
		}
		reads(t, r, w)
	}
}

// P11.1: where none is kept, there are numbers nevertheless.
func TestNoneKept(t *testing.T) {
	for _, n := range []int{-5, 0} {
		r := New(n)
		for i := range 5 {
			put(t, r, i, piece(i), int64(i))
			get(t, r, int64(i), Entry{}, false)
			since(t, r, 0, nil)
			next(t, r, int64(i+1))
		}
	}
}

// P11.1, R3: asking changes nothing.
func TestAsking(t *testing.T) {
	r, w := New(3), &row{n: 3}
	for i := range 5 {
		put(t, r, i, piece(i), w.put(i, piece(i)))
		for range 3 {
			reads(t, r, w)
		}
	}
}

// P11.1, R6: a piece is kept as it is, also one that no engine would show.
func TestAnyPiece(t *testing.T) {
	pieces := []api.Piece{
		{},
		{Engine: math.MinInt, Core: math.MaxInt, ID: -1, From: api.Rat{N: math.MinInt64}, To: api.Rat{N: math.MaxInt64, D: math.MinInt64}, Slack: true},
		{From: api.Rat{N: 9, D: 3}, To: api.Rat{N: 1, D: -2}},
		{Slack: true},
	}
	r, w := New(len(pieces)), &row{n: len(pieces)}
	for i, p := range pieces {
		put(t, r, clocks[i], p, w.put(clocks[i], p))
	}
	reads(t, r, w)
}

// R4, R5: an answer is one's own, spare room too, and each ring keeps its own.
func TestApart(t *testing.T) {
	a, b := New(3), New(3)
	w := &row{n: 3}
	for i := range 5 {
		put(t, a, i, piece(i), w.put(i, piece(i)))
	}
	reads(t, b, &row{n: 3})
	for _, from := range []int64{0, 3, 4} {
		some := a.Since(from)
		whole := some[:cap(some)]
		for i := range whole {
			whole[i] = Entry{Seq: -9, Clock: -9}
		}
		reads(t, a, w)
	}
	old, e := a.Since(0), w.since(0)
	for i := 5; i < 9; i++ {
		put(t, a, i, piece(i), w.put(i, piece(i)))
	}
	if !slices.Equal(old, e) {
		t.Errorf("an old answer has changed: %v, want %v", old, e)
	}
	reads(t, a, w)
}

// R7: a nil one answers zero values.
func TestNil(t *testing.T) {
	var r *Ring
	for i := range 3 {
		put(t, r, 5+i, piece(i), 0)
	}
	reads(t, r, &row{})
}

// R1: one that New did not make keeps none.
func TestUnmade(t *testing.T) {
	var r Ring
	w := &row{}
	reads(t, &r, w)
	for i := range 3 {
		put(t, &r, i, piece(i), w.put(i, piece(i)))
		reads(t, &r, w)
	}
}

// P11.1: others may ask Next meanwhile: it rises, and is what the one that puts has come to.
func TestNextBeside(t *testing.T) {
	const askers, rounds = 4, 200000
	r := New(3)
	var all sync.WaitGroup
	start := make(chan struct{})
	stop := make(chan struct{})
	for range askers {
		all.Add(1)
		go func() {
			defer all.Done()
			<-start
			last := int64(0)
			for {
				n := r.Next()
				if n < last || n > rounds {
					t.Errorf("Next: %d behind %d", n, last)
					return
				}
				last = n
				select {
				case <-stop:
					return
				default:
				}
			}
		}()
	}
	close(start)
	for i := range rounds {
		if seq := r.Put(i, api.Piece{ID: i}); seq != int64(i) {
			t.Errorf("Put: %d, want %d", seq, i)
			break
		}
	}
	close(stop)
	all.Wait()
	next(t, r, rounds)
	get(t, r, rounds-1, Entry{Seq: rounds - 1, Clock: rounds - 1, Piece: api.Piece{ID: rounds - 1}}, true)
}

// P11.1: what another goroutine has put is there once both have met, and meanwhile Next is the number ahead of it or behind it.
func TestHandOver(t *testing.T) {
	r, w := New(4), &row{n: 4}
	for i := range 50 {
		var one sync.WaitGroup
		one.Add(1)
		go func() {
			defer one.Done()
			put(t, r, i, piece(i), w.put(i, piece(i)))
		}()
		if n := r.Next(); n < int64(i) || n > int64(i)+1 {
			t.Errorf("Next: %d, want %d or one more", n, i)
		}
		one.Wait()
		reads(t, r, w)
	}
}
