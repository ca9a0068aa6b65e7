package reclaim

import "reclaim/api"

// The states of a block. All but the first have an object.
const (
	stateFree    = 0
	stateCounted = 1
	stateStuck   = 2
	stateQueued  = 3
)

// block: the count is right unless the object is stuck; then nobody asks for it.
// If an object waits or has an extra is not kept, for its state and its count tell.
type block struct {
	state  int
	count  int
	fields []value
}

// freeBlock is the free block with the least number, or 0 if none is free.
func (h *Heap) freeBlock() int {
	for b := 1; b < len(h.blocks); b++ {
		if h.blocks[b].state == stateFree {
			return b
		}
	}
	return 0
}

// blockToFill is the block for a new object, or 0 if there is none.
func (h *Heap) blockToFill() int {
	b := h.freeBlock()
	if b != 0 {
		return b
	}
	if len(h.queue) > 0 {
		h.freeFirst()
	} else {
		h.Collect()
	}
	return h.freeBlock()
}

func (h *Heap) makeObject(n int) api.Errno {
	if n < 0 || n > api.MaxFields {
		return api.ErrIndex
	}
	if h.isDeep() {
		return api.ErrDeep
	}
	b := h.blockToFill()
	if b == 0 {
		return api.ErrFull
	}
	h.makeRoomToWait()
	h.blocks[b] = block{state: stateCounted, fields: make([]value, n)}
	return h.push(value{kind: kindRef, num: b})
}

// checkField tells why v is no reference to an object with a field n.
func (h *Heap) checkField(v value, n int) api.Errno {
	e := checkRef(v)
	if e != api.OK {
		return e
	}
	if n < 0 || n >= len(h.blocks[v.num].fields) {
		return api.ErrIndex
	}
	return api.OK
}

func (h *Heap) load(n int) api.Errno {
	if len(h.stack) == 0 {
		return api.ErrEmpty
	}
	ref := h.below(0)
	e := h.checkField(ref, n)
	if e != api.OK {
		return e
	}
	h.pop(1)
	return h.push(h.blocks[ref.num].fields[n])
}

func (h *Heap) store(n int) api.Errno {
	if len(h.stack) < 2 {
		return api.ErrEmpty
	}
	v := h.below(0)
	ref := h.below(1)
	e := h.checkField(ref, n)
	if e != api.OK {
		return e
	}
	h.pop(2)
	h.setField(ref.num, n, v)
	return api.OK
}

// setField counts the new value ahead of the old one (P6), so an extra that the old one gives back comes too late for the new one.
func (h *Heap) setField(b, n int, v value) {
	old := h.blocks[b].fields[n]
	if sameValue(old, v) {
		return
	}
	if v.kind == kindRef {
		h.countField(v.num)
	}
	h.blocks[b].fields[n] = v
	if old.kind == kindRef {
		h.uncountField(old.num)
	}
}

func (h *Heap) size() (int, api.Errno) {
	if len(h.stack) == 0 {
		return 0, api.ErrEmpty
	}
	ref := h.below(0)
	e := checkRef(ref)
	if e != api.OK {
		return 0, e
	}
	return len(h.blocks[ref.num].fields), api.OK
}
