package reclaim

import "reclaim/api"

// Collect frees all that can be freed (P10).
func (h *Heap) Collect() int {
	reachable := h.mark()
	freed := h.sweep(reachable)
	h.recount()
	h.handOutExtras()
	return freed
}

// marking: found has each block once, in the order in which they were found.
type marking struct {
	reachable []bool // by the block's number
	found     []int
}

func (m *marking) add(l []value) {
	for i := 0; i < len(l); i++ {
		b := l[i].num
		if l[i].kind != kindRef || m.reachable[b] {
			continue
		}
		m.reachable[b] = true
		m.found = append(m.found, b)
	}
}

// mark tells of each block if its object is reachable. It ends at rings too, as no block is found twice.
func (h *Heap) mark() []bool {
	m := marking{reachable: make([]bool, len(h.blocks))}
	m.add(h.stack)
	m.add(h.globals)
	for i := 0; i < len(m.found); i++ {
		b := m.found[i]
		m.add(h.blocks[b].fields)
	}
	return m.reachable
}

// sweep empties the queue too: what is in it is not reachable.
func (h *Heap) sweep(reachable []bool) int {
	freed := 0
	for b := 1; b < len(h.blocks); b++ {
		if h.blocks[b].state != stateFree && !reachable[b] {
			h.blocks[b] = block{}
			freed++
		}
	}
	h.queue = h.queue[:0]
	return freed
}

// recount counts anew, for nobody kept the counts of stuck objects.
// An object that comes to wait here needs no sorting: only roots have it, and these are fewer than Zero.
func (h *Heap) recount() {
	for b := 1; b < len(h.blocks); b++ {
		h.blocks[b].count = 0
		if h.blocks[b].state == stateStuck {
			h.blocks[b].state = stateCounted
		}
	}
	for b := 1; b < len(h.blocks); b++ {
		h.countFieldsOf(b)
	}
}

func (h *Heap) countFieldsOf(b int) {
	fields := h.blocks[b].fields
	for i := 0; i < len(fields); i++ {
		if fields[i].kind == kindRef {
			h.blocks[fields[i].num].count++
		}
	}
}

// handOutExtras: a count above MaxCount is an extra by itself, so only those for whom none is left are touched.
func (h *Heap) handOutExtras() {
	left := h.over
	for b := 1; b < len(h.blocks); b++ {
		if h.blocks[b].count <= api.MaxCount {
			continue
		}
		if left == 0 {
			h.blocks[b].state = stateStuck
			continue
		}
		left--
	}
}
