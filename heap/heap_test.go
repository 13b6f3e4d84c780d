package heap

import (
	"math"
	"math/rand"
	"slices"
	"testing"

	"evenhanded/api"
	"evenhanded/rank"
)

const (
	least = math.MinInt
	most  = math.MaxInt
	limit = api.MaxHeap
)

// kinds are those that the chapter names, and others, which are as ByRank.
var kinds = []int{ByRank, ByTime, 0, 3, -1, least, most}

// at is what stands at a slot.
type at struct {
	slot int
	rank rank.Rank
}

func put(t *testing.T, h *Heap, slot int, r rank.Rank, want api.Errno) {
	t.Helper()
	if err := h.Put(slot, r); err != want {
		t.Errorf("Put(%d, %v): %v, want %v", slot, r, err, want)
	}
}

func top(t *testing.T, h *Heap, want at) {
	t.Helper()
	if slot, r, ok := h.Top(); slot != want.slot || r != want.rank || !ok {
		t.Errorf("Top: %d, %v, %v, want %v", slot, r, ok, want)
	}
}

func pop(t *testing.T, h *Heap, want at) {
	t.Helper()
	if slot, r, ok := h.Pop(); slot != want.slot || r != want.rank || !ok {
		t.Errorf("Pop: %d, %v, %v, want %v", slot, r, ok, want)
	}
}

func drop(t *testing.T, h *Heap, slot int, want bool) {
	t.Helper()
	if ok := h.Drop(slot); ok != want {
		t.Errorf("Drop(%d): %v, want %v", slot, ok, want)
	}
}

func size(t *testing.T, h *Heap, want int) {
	t.Helper()
	if n := h.Len(); n != want {
		t.Errorf("Len: %d, want %d", n, want)
	}
}

// empty holds that nothing is there, and that all beside is zero.
func empty(t *testing.T, h *Heap) {
	t.Helper()
	size(t, h, 0)
	if slot, r, ok := h.Top(); slot != 0 || r != (rank.Rank{}) || ok {
		t.Errorf("Top of none: %d, %v, %v", slot, r, ok)
	}
	if slot, r, ok := h.Pop(); slot != 0 || r != (rank.Rank{}) || ok {
		t.Errorf("Pop of none: %d, %v, %v", slot, r, ok)
	}
	size(t, h, 0)
}

// comesOut holds that these come out, in this order, and nothing after them.
func comesOut(t *testing.T, h *Heap, want ...at) {
	t.Helper()
	for i, w := range want {
		size(t, h, len(want)-i)
		top(t, h, w)
		pop(t, h, w)
		drop(t, h, w.slot, false)
	}
	empty(t, h)
}

func filled(t *testing.T, kind int, all ...at) *Heap {
	t.Helper()
	h := New(kind)
	for _, a := range all {
		put(t, h, a.slot, a.rank, api.OK)
	}
	return h
}

// eachOrder holds that these come out so, in whatever order they were put.
func eachOrder(t *testing.T, kind int, want ...at) {
	t.Helper()
	eachWay(slices.Clone(want), 0, func(l []at) {
		comesOut(t, filled(t, kind, l...), want...)
		if t.Failed() {
			t.Fatalf("kind %d, put as %v", kind, l)
		}
	})
}

// eachWay asks do of each order of l, of which the first k are settled.
func eachWay(l []at, k int, do func([]at)) {
	if k == len(l) {
		do(l)
	}
	for i := k; i < len(l); i++ {
		l[k], l[i] = l[i], l[k]
		eachWay(l, k+1, do)
		l[k], l[i] = l[i], l[k]
	}
}

// P6.1: the chapter's example.
func TestExample(t *testing.T) {
	h := filled(t, ByTime, at{3, rank.Rank{Deadline: 5}}, at{4, rank.Rank{Deadline: 2}})
	top(t, h, at{4, rank.Rank{Deadline: 2}})
}

// P6.1: the kinds have the numbers that the chapter gives them.
func TestKinds(t *testing.T) {
	if ByRank != 1 || ByTime != 2 {
		t.Errorf("ByRank %d, ByTime %d, want 1, 2", ByRank, ByTime)
	}
}

// P6.1: a new heap has nothing in it.
func TestNew(t *testing.T) {
	for _, kind := range kinds {
		h := New(kind)
		empty(t, h)
		for _, slot := range []int{least, -1, 0, 1, limit - 1, limit, most} {
			drop(t, h, slot, false)
		}
		empty(t, h)
	}
}

// P6.1: by rank, each question of rank.Less in its turn; so does each kind that is not ByTime.
func TestByRank(t *testing.T) {
	for _, kind := range kinds {
		if kind == ByTime {
			continue
		}
		eachOrder(t, kind,
			at{6, rank.Rank{Deadline: 4, Bit: 0, Group: 0, ID: 99}},
			at{5, rank.Rank{Deadline: 5, Bit: 2, Group: 0, ID: 50}},
			at{4, rank.Rank{Deadline: 5, Bit: 1, Group: 8, ID: 40}},
			at{3, rank.Rank{Deadline: 5, Bit: 1, Group: 7, ID: 30}},
			at{2, rank.Rank{Deadline: 5, Bit: 0, Group: 6, ID: 20}},
			at{1, rank.Rank{Deadline: 5, Bit: 0, Group: 9, ID: 21}},
			at{0, rank.Rank{Deadline: 6, Bit: 1, Group: 9, ID: 0}},
		)
	}
}

// P6.1: by time, Deadline and then ID; Bit and Group are not asked.
func TestByTime(t *testing.T) {
	eachOrder(t, ByTime,
		at{6, rank.Rank{Deadline: -3, Bit: 0, Group: 0, ID: 99}},
		at{5, rank.Rank{Deadline: 4, Bit: 0, Group: 0, ID: 7}},
		at{4, rank.Rank{Deadline: 5, Bit: -1, Group: 1, ID: -2}},
		at{3, rank.Rank{Deadline: 5, Bit: 0, Group: 2, ID: 1}},
		at{2, rank.Rank{Deadline: 5, Bit: 1, Group: 3, ID: 2}},
		at{1, rank.Rank{Deadline: 5, Bit: 1, Group: 9, ID: 3}},
		at{0, rank.Rank{Deadline: 6, Bit: 2, Group: 9, ID: 0}},
	)
}

// P6.1: one row, both ways.
func TestKindsDiffer(t *testing.T) {
	late, bit := at{1, rank.Rank{Deadline: 5, ID: 1}}, at{2, rank.Rank{Deadline: 5, Bit: 1, ID: 2}}
	comesOut(t, filled(t, ByRank, late, bit), bit, late)
	comesOut(t, filled(t, ByTime, late, bit), late, bit)
	comesOut(t, filled(t, 77, late, bit), bit, late)
}

// P6.1: alike ones by slot, also those whose ranks are not the same, but in what is not asked.
func TestAlikeBySlot(t *testing.T) {
	for _, kind := range kinds {
		same := rank.Rank{Deadline: 5, Bit: 1, Group: 8, ID: 9}
		eachOrder(t, kind, at{0, same}, at{1, same}, at{2, same}, at{10, same}, at{11, same}, at{limit - 1, same})
	}
	eachOrder(t, ByRank,
		at{1, rank.Rank{Deadline: 5, Group: 3, ID: 9}}, at{2, rank.Rank{Deadline: 5, Group: 9, ID: 9}},
		at{3, rank.Rank{Deadline: 5, Group: 1, ID: 9}}, at{4, rank.Rank{Deadline: 5, Group: 7, ID: 9}})
	eachOrder(t, ByTime,
		at{1, rank.Rank{Deadline: 5, Bit: 0, Group: 3, ID: 9}}, at{2, rank.Rank{Deadline: 5, Bit: 1, Group: 9, ID: 9}},
		at{3, rank.Rank{Deadline: 5, Bit: 1, Group: 1, ID: 9}}, at{4, rank.Rank{Deadline: 5, Bit: 2, Group: 7, ID: 9}})
}

// P6.1: numbers at the ends are held against each other without running over.
func TestEnds(t *testing.T) {
	for _, kind := range kinds {
		eachOrder(t, kind,
			at{5, rank.Rank{Deadline: least, ID: least}}, at{4, rank.Rank{Deadline: least, ID: most}},
			at{3, rank.Rank{}},
			at{2, rank.Rank{Deadline: most, ID: least}}, at{1, rank.Rank{Deadline: most, ID: 0}}, at{0, rank.Rank{Deadline: most, ID: most}})
	}
}

// P6.1: each rank comes out as it was put, whatever its numbers are.
func TestAnyRank(t *testing.T) {
	for _, kind := range kinds {
		for _, r := range []rank.Rank{{}, {Deadline: 1, Bit: 2, Group: 3, ID: 4}, {Deadline: least, Bit: most, Group: least, ID: most}, {Deadline: -1, Bit: -2, Group: -3, ID: -4}} {
			comesOut(t, filled(t, kind, at{7, r}), at{7, r})
		}
	}
}

// P6.1: slots from 0 to the last below MaxHeap are taken; others are refused, and change nothing.
func TestPutLimits(t *testing.T) {
	for _, kind := range kinds {
		h := New(kind)
		first := rank.Rank{Deadline: -9}
		for _, slot := range []int{-1, least, -limit, limit, limit + 1, 2 * limit, 1 << 32, most} {
			put(t, h, slot, first, api.ErrArg)
			drop(t, h, slot, false)
		}
		empty(t, h)
		put(t, h, limit-1, rank.Rank{Deadline: 1}, api.OK)
		put(t, h, 0, rank.Rank{Deadline: 2}, api.OK)
		for _, slot := range []int{-1, least, -limit, limit, limit + 1, 2 * limit, 1 << 32, most} {
			put(t, h, slot, first, api.ErrArg)
			drop(t, h, slot, false)
		}
		comesOut(t, h, at{limit - 1, rank.Rank{Deadline: 1}}, at{0, rank.Rank{Deadline: 2}})
	}
}

// deadlines answers a row by Deadline: at slot k the k-th.
func deadlines(l ...int) []at {
	all := make([]at, len(l))
	for slot, d := range l {
		all[slot] = at{slot, rank.Rank{Deadline: d, ID: slot}}
	}
	return all
}

// inOrder answers what a heap of that kind has to give out, in the order of the chapter's words.
func inOrder(kind int, l []at) []at {
	l = slices.Clone(l)
	slices.SortFunc(l, func(a, b at) int {
		if before(kind, a, b) {
			return -1
		}
		return 1
	})
	return l
}

func before(kind int, a, b at) bool {
	if kind == ByTime {
		return slices.Compare([]int{a.rank.Deadline, a.rank.ID, a.slot}, []int{b.rank.Deadline, b.rank.ID, b.slot}) < 0
	}
	if rank.Less(a.rank, b.rank) || rank.Less(b.rank, a.rank) {
		return rank.Less(a.rank, b.rank)
	}
	return a.slot < b.slot
}

// P6.1: a slot that is put again has the new rank alone, whether that goes ahead or behind.
func TestPutAgain(t *testing.T) {
	for _, kind := range kinds {
		for slot := range 12 {
			for _, d := range []int{-1, 5, 10, 15, 20, 25, 30, 99} {
				all := deadlines(10, 12, 30, 14, 16, 32, 34, 18, 20, 22, 24, 36)
				h := filled(t, kind, all...)
				all[slot].rank = rank.Rank{Deadline: d, Bit: 1, Group: 3, ID: 50}
				put(t, h, slot, all[slot].rank, api.OK)
				size(t, h, len(all))
				comesOut(t, h, inOrder(kind, all)...)
			}
		}
	}
}

// P6.1: the same rank once more changes nothing.
func TestPutSame(t *testing.T) {
	for _, kind := range kinds {
		all := deadlines(3, 1, 2, 1, 3)
		h := filled(t, kind, slices.Concat(all, all, all[2:3])...)
		comesOut(t, h, inOrder(kind, all)...)
	}
}

// P6.1: wherever it stands, what is dropped is gone, and all else comes out in order.
func TestDrop(t *testing.T) {
	for _, kind := range kinds {
		for slot := range 12 {
			// In this row the last one belongs ahead of many in the other branch.
			all := deadlines(1, 50, 2, 60, 70, 3, 4, 80, 81, 82, 83, 5)
			h := filled(t, kind, all...)
			drop(t, h, slot, true)
			drop(t, h, slot, false)
			comesOut(t, h, inOrder(kind, slices.Delete(all, slot, slot+1))...)
		}
	}
}

// P6.1: all are dropped, and all may be put again.
func TestDropAll(t *testing.T) {
	for _, kind := range kinds {
		all := deadlines(4, 2, 8, 6, 1, 9)
		h := filled(t, kind, all...)
		for left := len(all) - 1; left >= 0; left-- {
			drop(t, h, all[left].slot, true)
			size(t, h, left)
		}
		empty(t, h)
		for _, a := range all {
			put(t, h, a.slot, a.rank, api.OK)
		}
		comesOut(t, h, inOrder(kind, all)...)
	}
}

// P6.1: a slot at which nothing stands is no slot to drop, beside one at which something does.
func TestDropWrong(t *testing.T) {
	for _, kind := range kinds {
		h := filled(t, kind, at{5, rank.Rank{Deadline: 1}})
		for _, slot := range []int{least, -6, -5, -1, 0, 1, 4, 6, limit - 1, limit, limit + 5, most} {
			drop(t, h, slot, false)
		}
		comesOut(t, h, at{5, rank.Rank{Deadline: 1}})
	}
}

// P6.1: Top leaves the first where it is.
func TestTopLeaves(t *testing.T) {
	h := filled(t, ByRank, deadlines(4, 2, 8)...)
	for range 5 {
		top(t, h, at{1, rank.Rank{Deadline: 2, ID: 1}})
		size(t, h, 3)
	}
	pop(t, h, at{1, rank.Rank{Deadline: 2, ID: 1}})
	top(t, h, at{0, rank.Rank{Deadline: 4, ID: 0}})
	size(t, h, 2)
}

// P6.1: a slot that was popped may be put again.
func TestPopAndPut(t *testing.T) {
	h := filled(t, ByTime, deadlines(1, 2, 3)...)
	for d := 4; d < 100; d++ {
		slot, r, ok := h.Pop()
		if !ok || r.Deadline != d-3 || slot != (d-4)%3 {
			t.Fatalf("%d, %v, %v at %d", slot, r, ok, d)
		}
		put(t, h, slot, rank.Rank{Deadline: d}, api.OK)
		size(t, h, 3)
	}
}

// P6.1: all slots at once, and not one more; wherever they stand, they are found again.
func TestFull(t *testing.T) {
	for _, kind := range []int{ByRank, ByTime} {
		random := rand.New(rand.NewSource(6))
		h := New(kind)
		all := make([]at, limit)
		for _, slot := range random.Perm(limit) {
			all[slot] = at{slot, anyRank(random, 200)}
			put(t, h, slot, all[slot].rank, api.OK)
		}
		put(t, h, limit, rank.Rank{}, api.ErrArg)
		size(t, h, limit)
		for _, slot := range random.Perm(limit)[:limit/4] {
			all[slot].rank = anyRank(random, 200)
			put(t, h, slot, all[slot].rank, api.OK)
		}
		size(t, h, limit)
		gone := func(slot int) bool { return slot%3 == 1 }
		for slot := range limit {
			if gone(slot) {
				drop(t, h, slot, true)
			}
		}
		all = slices.DeleteFunc(all, func(a at) bool { return gone(a.slot) })
		comesOut(t, h, inOrder(kind, all)...)
	}
}

// R5: two heaps know nothing of each other.
func TestTwoHeaps(t *testing.T) {
	a, b := New(ByRank), New(ByRank)
	put(t, a, 1, rank.Rank{Deadline: 7}, api.OK)
	empty(t, b)
	put(t, b, 1, rank.Rank{Deadline: 8}, api.OK)
	put(t, b, 2, rank.Rank{Deadline: 6}, api.OK)
	drop(t, a, 2, false)
	comesOut(t, a, at{1, rank.Rank{Deadline: 7}})
	comesOut(t, b, at{2, rank.Rank{Deadline: 6}}, at{1, rank.Rank{Deadline: 8}})
}

// R7: a heap that is nil has nothing, and takes nothing.
func TestNoHeap(t *testing.T) {
	var none *Heap
	for _, slot := range []int{least, -1, 0, 1, limit - 1, limit, most} {
		put(t, none, slot, rank.Rank{Deadline: 1}, api.ErrArg)
		drop(t, none, slot, false)
	}
	empty(t, none)
}

// R1: a heap that New has not made is of no kind that the chapter names, so as ByRank.
func TestNotMade(t *testing.T) {
	h := new(Heap)
	empty(t, h)
	drop(t, h, 0, false)
	put(t, h, limit, rank.Rank{}, api.ErrArg)
	put(t, h, 1, rank.Rank{Deadline: 5, ID: 1}, api.OK)
	put(t, h, 2, rank.Rank{Deadline: 5, Bit: 1, ID: 2}, api.OK)
	comesOut(t, h, at{2, rank.Rank{Deadline: 5, Bit: 1, ID: 2}}, at{1, rank.Rank{Deadline: 5, ID: 1}})
}

// anyRank answers one of few kinds, so that many are alike.
func anyRank(r *rand.Rand, n int) rank.Rank {
	return rank.Rank{Deadline: r.Intn(n), Bit: r.Intn(4) - 1, Group: r.Intn(n), ID: r.Intn(3)}
}

// plain is the heap in its simplest words: a row in which the first is looked for.
type plain struct {
	kind int
	row  []at
}

func (p *plain) find(slot int) int {
	return slices.IndexFunc(p.row, func(a at) bool { return a.slot == slot })
}

func (p *plain) drop(slot int) bool {
	k := p.find(slot)
	if k >= 0 {
		p.row = slices.Delete(p.row, k, k+1)
	}
	return k >= 0
}

func (p *plain) put(slot int, r rank.Rank) {
	p.drop(slot)
	p.row = append(p.row, at{slot, r})
}

func (p *plain) first() at {
	first := p.row[0]
	for _, a := range p.row {
		if before(p.kind, a, first) {
			first = a
		}
	}
	return first
}

// agree holds the first and the number of those that are there against the plain heap.
func agree(t *testing.T, h *Heap, p *plain) {
	t.Helper()
	if len(p.row) == 0 {
		empty(t, h)
		return
	}
	size(t, h, len(p.row))
	top(t, h, p.first())
}

// step asks one call of both; now more are put, now more are taken out, so that the heap is full and empty by turns.
func step(t *testing.T, h *Heap, p *plain, random *rand.Rand, slots int, shrink bool) {
	t.Helper()
	puts := 6
	if shrink {
		puts = 3
	}
	slot := random.Intn(slots)
	switch k := random.Intn(10); {
	case k < puts:
		r := anyRank(random, 6)
		p.put(slot, r)
		put(t, h, slot, r, api.OK)
	case k < 8:
		drop(t, h, slot, p.drop(slot))
	case len(p.row) > 0:
		first := p.first()
		p.drop(first.slot)
		pop(t, h, first)
	default:
		empty(t, h)
	}
}

// P6.1: long rows of calls against the plain heap.
func TestAgainstPlain(t *testing.T) {
	random := rand.New(rand.NewSource(6))
	for _, kind := range kinds {
		for _, slots := range []int{1, 2, 3, 7, 16, 50, 120} {
			h, p := New(kind), &plain{kind: kind}
			for n := range 3000 {
				step(t, h, p, random, slots, n/400%2 == 1)
				agree(t, h, p)
				if t.Failed() {
					t.Fatalf("kind %d, %d slots, step %d", kind, slots, n)
				}
			}
			comesOut(t, h, inOrder(kind, p.row)...)
		}
	}
}

// P6.1: the first of many, where all slots are taken.
func BenchmarkPopAndPut(b *testing.B) {
	h := New(ByRank)
	for slot := range limit {
		h.Put(slot, rank.Rank{Deadline: slot})
	}
	for b.Loop() {
		slot, r, _ := h.Pop()
		r.Deadline += limit
		h.Put(slot, r)
	}
}
