package heap

import "effectus/api"

const (
	nowhere = -1 // the address of no thing
	// far is what a root's address is ahead by between the two times that the roots are ranged over:
	// so a place that is told twice is not moved twice.
	far = 1 << 62
)

// Collect gives up all things that are not reached, and slides the others together; it answers how many cells these take.
func (h *Heap) Collect(roots func(func(*api.Cell) bool)) int {
	if roots == nil {
		roots = noRoots
	}
	for c := range roots {
		h.reach(c)
	}
	used := h.settle()
	h.refer()
	for c := range roots {
		h.follow(c)
	}
	h.slide()
	h.used = used
	return used
}

// noRoots ranges over no roots.
func noRoots(func(*api.Cell) bool) {}

// reach marks what is reached from a root.
func (h *Heap) reach(c *api.Cell) {
	if c == nil || !c.Ptr || !h.lies(c.N) {
		return
	}
	if h.cells[c.N].is == head {
		h.mark(c.N)
	}
	c.N += far
}

// follow makes a root refer to where its thing is to lie.
func (h *Heap) follow(c *api.Cell) {
	if c == nil || !c.Ptr || c.N < far {
		return
	}
	if first := h.first(c.N - far); first.is == reached {
		c.N = first.n
	}
}

// mark marks a thing that is not marked, and all that is reached from it and not marked.
// On the way into a thing the field that was gone through refers to where one came from, so that nothing has to be kept beside the heap.
func (h *Heap) mark(a int) {
	from := nowhere
	h.enter(a)
	for {
		if field := h.next(a); field != nil {
			a, from, field.n = field.n, a, from
			h.enter(a)
			continue
		}
		if from == nowhere {
			return
		}
		field := h.last(from)
		a, from, field.n = from, field.n, a
	}
}

// enter marks a thing, of which no field is gone through yet.
func (h *Heap) enter(a int) {
	h.cells[a].is, h.cells[a].n = reached, 0
}

// next goes on through the fields of a thing, up to one that refers to a thing that is not marked; nil, if there is none.
func (h *Heap) next(a int) *cell {
	first := &h.cells[a]
	for first.n < int(first.size) {
		first.n++
		if c := h.last(a); c.is == pointer && h.first(c.n).is == head {
			return c
		}
	}
	return nil
}

// last is the field of a thing that was gone through last.
func (h *Heap) last(a int) *cell { return &h.cells[a+h.cells[a].n] }

// kept ranges over the addresses of the things that are marked; those up to the one that is told may be moved meanwhile.
func (h *Heap) kept(yield func(int) bool) {
	for a := 0; a < h.used; {
		first := h.cells[a]
		if first.is == reached && !yield(a) {
			return
		}
		a += int(first.size) + 1
	}
}

// settle says in each thing that is marked where it is to lie, and answers how many cells they take.
func (h *Heap) settle() int {
	used := 0
	for a := range h.kept {
		h.cells[a].n = used
		used += int(h.cells[a].size) + 1
	}
	return used
}

// refer makes the fields of what is marked refer to where their things are to lie.
func (h *Heap) refer() {
	for a := range h.kept {
		fields := h.cells[a+1:][:h.cells[a].size]
		for i := range fields {
			if c := &fields[i]; c.is == pointer && h.lies(c.n) {
				c.n = h.cells[c.n].n
			}
		}
	}
}

// slide brings each thing that is marked to where it is to lie.
func (h *Heap) slide() {
	for a := range h.kept {
		to := h.cells[a].n
		h.cells[a].is, h.cells[a].n = head, 0
		copy(h.cells[to:], h.cells[a:][:h.cells[a].size+1])
	}
}
