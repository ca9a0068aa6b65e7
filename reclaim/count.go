package reclaim

import "reclaim/api"

func (b block) hasExtra() bool { return b.state == stateCounted && b.count > api.MaxCount }

// heldOnce: with one field less the object has the count 0.
func (b block) heldOnce() bool { return b.state == stateCounted && b.count == 1 }

func (h *Heap) extras() int {
	n := 0
	for b := 1; b < len(h.blocks); b++ {
		if h.blocks[b].hasExtra() {
			n++
		}
	}
	return n
}

// countField: one more field is a reference to the object of block b.
func (h *Heap) countField(b int) {
	if h.blocks[b].state != stateCounted {
		return
	}
	if h.blocks[b].count == api.MaxCount {
		extras := h.extras()
		if extras >= h.over {
			h.blocks[b].state = stateStuck
			return
		}
	}
	h.blocks[b].count++
}

// uncountField: one field less is a reference to the object of block b.
func (h *Heap) uncountField(b int) {
	if h.blocks[b].state != stateCounted {
		return
	}
	if h.blocks[b].heldOnce() {
		// While its count is still 1 the object doesn't wait, so the sorting passes it over.
		h.makeRoomToWait()
	}
	h.blocks[b].count--
}
