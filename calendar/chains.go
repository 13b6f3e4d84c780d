package calendar

// chains gives each entry of a calendar a mark, a small number above 0, and knows the marks of each id.
// So an id's entries are found without going through those of others.
type chains struct {
	// heads has by id the first of its marks; an id that has none is not there.
	heads map[int]int
	// links has by mark its neighbours. No mark is 0, so that the ends may write to a neighbour that they do not have:
	// what stands at 0 is not read.
	links []link
	// free is the first of the marks that are free, chained by next.
	free int
}

// link is a mark's neighbours in the chain of its id, 0 where there is none.
type link struct{ prev, next int }

// first is the first of an id's marks, 0 if it has none.
func (c *chains) first(id int) int {
	return c.heads[id]
}

// add gives the id one more mark.
func (c *chains) add(id int) int {
	if c.heads == nil {
		c.heads, c.links = map[int]int{}, make([]link, 1)
	}
	mark, next := c.take(), c.heads[id]
	c.links[mark] = link{next: next}
	c.links[next].prev = mark
	c.heads[id] = mark
	return mark
}

// take is a free mark, or, where none is free, a new one.
func (c *chains) take() int {
	if mark := c.free; mark != 0 {
		c.free = c.links[mark].next
		return mark
	}
	c.links = append(c.links, link{})
	return len(c.links) - 1
}

// remove takes the mark from the id, which must have it, and keeps it for another.
func (c *chains) remove(mark, id int) {
	gone := c.links[mark]
	c.links[gone.prev].next = gone.next
	c.links[gone.next].prev = gone.prev
	if gone.prev == 0 {
		c.lead(id, gone.next)
	}
	c.links[mark] = link{next: c.free}
	c.free = mark
}

// lead makes the mark the first of the id's; 0: it has none.
func (c *chains) lead(id, mark int) {
	if mark == 0 {
		delete(c.heads, id)
		return
	}
	c.heads[id] = mark
}
