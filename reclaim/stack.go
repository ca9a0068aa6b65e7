package reclaim

import "reclaim/api"

func (h *Heap) isDeep() bool { return len(h.stack) >= h.room }

func (h *Heap) push(v value) api.Errno {
	if h.isDeep() {
		return api.ErrDeep
	}
	h.stack = append(h.stack, v)
	return api.OK
}

// below is the value that lies n below the top. The caller knows that there is one.
func (h *Heap) below(n int) value { return h.stack[len(h.stack)-1-n] }

// pop takes n values away. The caller knows that there are so many.
func (h *Heap) pop(n int) { h.stack = h.stack[:len(h.stack)-n] }

func (h *Heap) dup(n int) api.Errno {
	if n < 0 || n >= len(h.stack) {
		return api.ErrIndex
	}
	v := h.below(n)
	return h.push(v)
}

func (h *Heap) drop() api.Errno {
	if len(h.stack) == 0 {
		return api.ErrEmpty
	}
	h.pop(1)
	return api.OK
}

func (h *Heap) get(n int) api.Errno {
	if n < 0 || n >= len(h.globals) {
		return api.ErrIndex
	}
	return h.push(h.globals[n])
}

func (h *Heap) set(n int) api.Errno {
	if n < 0 || n >= len(h.globals) {
		return api.ErrIndex
	}
	if len(h.stack) == 0 {
		return api.ErrEmpty
	}
	h.globals[n] = h.below(0)
	h.pop(1)
	return api.OK
}

func (h *Heap) same() (int, api.Errno) {
	if len(h.stack) < 2 {
		return 0, api.ErrEmpty
	}
	upper := h.below(0)
	lower := h.below(1)
	h.pop(2)
	if sameValue(upper, lower) {
		return 1, api.OK
	}
	return 0, api.OK
}

func (h *Heap) take() (int, api.Errno) {
	if len(h.stack) == 0 {
		return 0, api.ErrEmpty
	}
	top := h.below(0)
	if top.kind != kindNumber {
		return 0, api.ErrKind
	}
	h.pop(1)
	return top.num, api.OK
}

func (h *Heap) kind() (int, api.Errno) {
	if len(h.stack) == 0 {
		return 0, api.ErrEmpty
	}
	top := h.below(0)
	return top.kind, api.OK
}
