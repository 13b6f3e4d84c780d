package pick

import (
	"evenhanded/api"
	"evenhanded/heap"
	"evenhanded/rank"
)

// line has ranks in heaps, as many as are needed, since a list may be longer than one heap has slots.
type line struct {
	heaps []*heap.Heap
	count int
}

// put adds a rank.
func (l *line) put(r rank.Rank) {
	slot := l.count % api.MaxHeap
	if slot == 0 {
		l.heaps = append(l.heaps, heap.New(heap.ByRank))
	}
	l.heaps[len(l.heaps)-1].Put(slot, r)
	l.count++
}

// first takes out the first n ranks, or all if there are fewer, and answers their ids in that order.
func (l *line) first(n int) []int {
	tops := heap.New(heap.ByRank)
	for i, h := range l.heaps {
		show(tops, i, h)
	}
	var ids []int
	for len(ids) < n {
		i, r, ok := tops.Pop()
		if !ok {
			break
		}
		ids = append(ids, r.ID)
		l.heaps[i].Pop()
		show(tops, i, l.heaps[i])
	}
	return ids
}

// show puts the first of the i-th heap, if there is one, among those of all.
func show(tops *heap.Heap, i int, h *heap.Heap) {
	if _, r, ok := h.Top(); ok {
		tops.Put(i, r)
	}
}
