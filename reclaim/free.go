package reclaim

// Safepoint frees some of what can be freed (P9).
func (h *Heap) Safepoint() int {
	h.sortWaiting()
	freed := 0
	for freed < h.budget && len(h.queue) > 0 {
		h.freeFirst()
		freed++
	}
	return freed
}

// freeFirst: the caller knows that the queue is not empty.
// The object stays in the queue until its fields are nil, and what comes to the queue meanwhile goes behind it.
func (h *Heap) freeFirst() {
	b := h.queue[0]
	for i := 0; i < len(h.blocks[b].fields); i++ {
		h.clearField(b, i)
	}
	h.shiftQueue()
	h.blocks[b] = block{}
}

// clearField: the object whose last reference this was can't be reached again, so it goes to the queue without waiting.
func (h *Heap) clearField(b, n int) {
	old := h.blocks[b].fields[n]
	h.blocks[b].fields[n] = value{}
	if old.kind != kindRef {
		return
	}
	if h.blocks[old.num].heldOnce() && !h.isRoot(old.num) {
		h.blocks[old.num].count = 0
		h.enqueue(old.num)
		return
	}
	h.uncountField(old.num)
}

// shiftQueue moves the rest up, so that the queue never outgrows the blocks.
func (h *Heap) shiftQueue() {
	last := len(h.queue) - 1
	for i := 0; i < last; i++ {
		h.queue[i] = h.queue[i+1]
	}
	h.queue = h.queue[:last]
}
