// Package reclaim: a heap that counts late, frees little by little, and sweeps what counting misses: see DOC.md.
package reclaim

import "reclaim/api"

// Heap is a heap with its stack and globals.
type Heap struct {
	room    int     // how many values the stack may have
	budget  int     // how many blocks a Safepoint may free
	zero    int     // how many objects may wait
	over    int     // how many objects may have an extra
	stack   []value // the top last
	globals []value
	blocks  []block // entry 0 is never used, so that a block's number is its index
	queue   []int   // blocks' numbers, the first first
}

// New makes a heap (P3).
func New(c api.Config) (*Heap, api.Errno) {
	if !isConfig(c) {
		return nil, api.ErrConfig
	}
	h := &Heap{
		room:    c.Stack,
		budget:  c.Budget,
		zero:    c.Zero,
		over:    c.Over,
		globals: make([]value, c.Globals),
		blocks:  make([]block, c.Blocks+1),
	}
	return h, api.OK
}

// Do does one operation (P4 to P6).
func (h *Heap) Do(op int, n int) (int, api.Errno) {
	switch op {
	case api.OpNil:
		return 0, h.push(value{})
	case api.OpInt:
		return 0, h.push(value{kind: kindNumber, num: n})
	case api.OpNew:
		return 0, h.makeObject(n)
	case api.OpDup:
		return 0, h.dup(n)
	case api.OpDrop:
		return 0, h.drop()
	case api.OpGet:
		return 0, h.get(n)
	case api.OpSet:
		return 0, h.set(n)
	case api.OpLoad:
		return 0, h.load(n)
	case api.OpStore:
		return 0, h.store(n)
	case api.OpSame:
		return h.same()
	case api.OpTake:
		return h.take()
	case api.OpSize:
		return h.size()
	case api.OpKind:
		return h.kind()
	}
	return 0, api.ErrOp
}
