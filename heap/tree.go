package heap

import "evenhanded/rank"

// entry is a slot with its rank. Of the entry at a spot k of the tree, those at 2k+1 and 2k+2 are not ahead.
type entry struct {
	slot int
	rank rank.Rank
}

// ahead says whether a comes out sooner than b.
func (h *Heap) ahead(a, b entry) bool {
	if h.less(a.rank, b.rank) {
		return true
	}
	if h.less(b.rank, a.rank) {
		return false
	}
	return a.slot < b.slot
}

func (h *Heap) less(a, b rank.Rank) bool {
	switch h.kind {
	case ByTime:
		return a.Deadline < b.Deadline || a.Deadline == b.Deadline && a.ID < b.ID
	default:
		return rank.Less(a, b)
	}
}

func (h *Heap) find(slot int) (int, bool) {
	if slot < 0 || slot >= len(h.spots) || h.spots[slot] == 0 {
		return 0, false
	}
	return int(h.spots[slot]) - 1, true
}

// add makes room for one more slot, and answers the spot that is left to be set.
func (h *Heap) add(slot int) int {
	if more := slot + 1 - len(h.spots); more > 0 {
		h.spots = append(h.spots, make([]int32, more)...)
	}
	h.tree = append(h.tree, entry{})
	return len(h.tree) - 1
}

func (h *Heap) set(spot int, e entry) {
	h.tree[spot] = e
	h.spots[e.slot] = int32(spot + 1)
}

func (h *Heap) remove(spot int) {
	last := len(h.tree) - 1
	gone, moved := h.tree[spot].slot, h.tree[last]
	h.tree = h.tree[:last]
	h.spots[gone] = 0
	if spot < last {
		h.set(spot, moved)
		h.settle(spot)
	}
}

// settle brings the entry at the spot to where it belongs. One that comes from another branch may belong further up as well as further down.
func (h *Heap) settle(spot int) {
	h.down(h.up(spot))
}

// up answers where the entry stands then.
func (h *Heap) up(spot int) int {
	e := h.tree[spot]
	for spot > 0 {
		above := (spot - 1) / 2
		if !h.ahead(e, h.tree[above]) {
			break
		}
		h.set(spot, h.tree[above])
		spot = above
	}
	h.set(spot, e)
	return spot
}

func (h *Heap) down(spot int) {
	e := h.tree[spot]
	for {
		below := h.firstBelow(spot)
		if below < 0 || !h.ahead(h.tree[below], e) {
			break
		}
		h.set(spot, h.tree[below])
		spot = below
	}
	h.set(spot, e)
}

// firstBelow is the spot of the first of the two that stand right below, -1 if there is none.
func (h *Heap) firstBelow(spot int) int {
	left, right := 2*spot+1, 2*spot+2
	if left >= len(h.tree) {
		return -1
	}
	if right < len(h.tree) && h.ahead(h.tree[right], h.tree[left]) {
		return right
	}
	return left
}
