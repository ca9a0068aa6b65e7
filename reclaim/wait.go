package reclaim

func (b block) waits() bool { return b.state == stateCounted && b.count == 0 }

func (h *Heap) waiting() int {
	n := 0
	for b := 1; b < len(h.blocks); b++ {
		if h.blocks[b].waits() {
			n++
		}
	}
	return n
}

// makeRoomToWait is called ahead of the moment from which an object waits, so that a sorting is done without it.
// One sorting is enough: Zero is greater than the number of the roots.
func (h *Heap) makeRoomToWait() {
	waiting := h.waiting()
	if waiting >= h.zero {
		h.sortWaiting()
	}
}

// sortWaiting: no root has what goes to the queue, and no field either, so nothing can come to have it again.
func (h *Heap) sortWaiting() {
	for b := 1; b < len(h.blocks); b++ {
		if h.blocks[b].waits() && !h.isRoot(b) {
			h.enqueue(b)
		}
	}
}

func (h *Heap) enqueue(b int) {
	h.blocks[b].state = stateQueued
	h.queue = append(h.queue, b)
}

// isRoot tells if a root is a reference to the object of block b.
func (h *Heap) isRoot(b int) bool {
	ref := value{kind: kindRef, num: b}
	return hasValue(h.stack, ref) || hasValue(h.globals, ref)
}

func hasValue(l []value, v value) bool {
	for i := 0; i < len(l); i++ {
		if sameValue(l[i], v) {
			return true
		}
	}
	return false
}
