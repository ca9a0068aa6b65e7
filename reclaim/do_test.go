package reclaim_test

import (
	"testing"

	"reclaim/api"
	"reclaim/reclaim"
)

// TestDoNumbers: the number of the last operation, on a fresh heap of the examples.
func TestDoNumbers(t *testing.T) {
	for _, c := range []struct {
		text   string
		number int
	}{
		{"nil", 0}, {"nil, kind", 0},
		{"int 7", 0}, {"int 7, take", 7}, {"int 0, take", 0}, {"int -5, take", -5}, {"int 9223372036854775807, take", maxInt}, {"int -9223372036854775808, take", minInt},
		{"new 3", 0}, {"new 0, kind", 2}, {"new 0, size", 0}, {"new 1, size", 1}, {"new 4, size", 4},
		{"int 1, dup 0", 0}, {"int 1, int 2, dup 0, take", 2}, {"int 1, int 2, dup 1, take", 1}, {"int 1, int 2, int 3, dup 2, take", 1}, {"int 1, int 2, dup 1, drop, take", 2},
		{"int 1, drop", 0}, {"int 1, int 2, drop, take", 1},
		{"get 0", 0}, {"int 6, set 0", 0}, {"int 6, set 0, get 0, take", 6}, {"int 6, set 0, get 0, take, get 0, take", 6}, {"int 6, set 0, int 7, set 0, get 0, take", 7}, {"int 6, int 7, set 0, take", 6}, {"int 6, set 0, nil, set 0, get 0, kind", 0},
		{"new 1, load 0", 0}, {"new 1, load 0, kind", 0}, {"int 4, new 1, load 0, drop, take", 4},
		{"int 7, int 7, same", 1}, {"int 7, int 8, same", 0}, {"int 9223372036854775807, int -9223372036854775808, same", 0}, {"nil, nil, same", 1}, {"nil, int 0, same", 0}, {"int 0, nil, same", 0},
		{"new 0, dup 0, same", 1}, {"new 0, new 0, same", 0}, {"new 0, nil, same", 0}, {"int 1, new 0, same", 0}, {"new 0, int 1, same", 0}, {"new 0, int 0, same", 0}, {"int 4, nil, nil, same, take", 4}, {"int 4, nil, int 1, same, take", 4},
		{"int 3, int 4, take, take", 3},
		{"new 2, size, size", 2}, {"int 5, kind, take", 5}, {"int 5, kind", 1},
	} {
		h := newHeap(t, example)
		want(t, h, c.text, c.number)
	}
}

// refusals: behind the operations of ahead, the operation op answers the error.
// Where several errors apply, that is the one that the document names first.
var refusals = []struct {
	ahead, op string
	errno     api.Errno
}{
	{"nil, nil, nil, nil", "nil", api.ErrDeep},
	{"nil, nil, nil, nil", "int 1", api.ErrDeep},
	{"", "new -1", api.ErrIndex}, {"", "new 5", api.ErrIndex}, {"", "new 9223372036854775807", api.ErrIndex}, {"", "new -9223372036854775808", api.ErrIndex},
	{"nil, nil, nil, nil", "new 9", api.ErrIndex}, {"nil, nil, nil, nil", "new 0", api.ErrDeep},
	{"new 0, new 0, new 0", "new 0", api.ErrFull}, {"new 0, new 0, new 0", "new 5", api.ErrIndex}, {"new 0, new 0, new 0, nil", "new 0", api.ErrDeep}, {"new 0, new 0, new 0, nil", "new -1", api.ErrIndex},
	{"", "dup 0", api.ErrIndex}, {"int 1", "dup 1", api.ErrIndex}, {"int 1", "dup -1", api.ErrIndex}, {"int 1", "dup 9223372036854775807", api.ErrIndex}, {"int 1", "dup -9223372036854775808", api.ErrIndex},
	{"nil, nil, nil, nil", "dup 4", api.ErrIndex}, {"nil, nil, nil, nil", "dup 3", api.ErrDeep},
	{"", "drop", api.ErrEmpty}, {"int 6, set 0", "drop", api.ErrEmpty},
	{"", "get 1", api.ErrIndex}, {"", "get -1", api.ErrIndex}, {"", "get 9223372036854775807", api.ErrIndex}, {"", "get -9223372036854775808", api.ErrIndex},
	{"nil, nil, nil, nil", "get 0", api.ErrDeep}, {"nil, nil, nil, nil", "get 1", api.ErrIndex},
	{"", "set 0", api.ErrEmpty}, {"", "set 1", api.ErrIndex}, {"int 1", "set 1", api.ErrIndex}, {"int 1", "set -1", api.ErrIndex}, {"int 1", "set 9223372036854775807", api.ErrIndex}, {"int 1", "set -9223372036854775808", api.ErrIndex},
	{"", "load 0", api.ErrEmpty}, {"", "load 9", api.ErrEmpty}, {"nil", "load 0", api.ErrNil}, {"nil", "load 9", api.ErrNil}, {"int 3", "load 0", api.ErrKind}, {"int 3", "load -1", api.ErrKind},
	{"new 0", "load 0", api.ErrIndex}, {"new 1", "load 1", api.ErrIndex}, {"new 1", "load -1", api.ErrIndex}, {"new 3", "load 3", api.ErrIndex}, {"new 4", "load 4", api.ErrIndex}, {"new 4", "load 9223372036854775807", api.ErrIndex}, {"new 4", "load -9223372036854775808", api.ErrIndex},
	{"", "store 0", api.ErrEmpty}, {"new 1", "store 0", api.ErrEmpty}, {"nil", "store 0", api.ErrEmpty}, {"nil, int 1", "store 0", api.ErrNil}, {"nil, new 1", "store 9", api.ErrNil}, {"int 1, int 1", "store 0", api.ErrKind}, {"int 1, new 1", "store 9", api.ErrKind},
	{"new 0, int 1", "store 0", api.ErrIndex}, {"new 1, int 1", "store 1", api.ErrIndex}, {"new 1, nil", "store -1", api.ErrIndex}, {"new 2, new 4", "store 2", api.ErrIndex}, {"new 4, nil", "store 9223372036854775807", api.ErrIndex}, {"new 4, nil", "store -9223372036854775808", api.ErrIndex},
	{"", "same", api.ErrEmpty}, {"nil", "same", api.ErrEmpty}, {"new 0", "same", api.ErrEmpty}, {"nil, nil, same", "drop", api.ErrEmpty},
	{"", "take", api.ErrEmpty}, {"nil", "take", api.ErrKind}, {"new 0", "take", api.ErrKind}, {"int 3, take", "take", api.ErrEmpty},
	{"", "size", api.ErrEmpty}, {"nil", "size", api.ErrNil}, {"int 2", "size", api.ErrKind},
	{"", "kind", api.ErrEmpty},
}

func TestDoRefuses(t *testing.T) {
	for _, c := range refusals {
		h := newHeap(t, example)
		play(t, h, c.ahead)
		refuse(t, h, c.op, c.errno)
	}
}

// TestDoErrorChangesNothing goes on behind an error as a model does that has not heard of the operation.
func TestDoErrorChangesNothing(t *testing.T) {
	for _, c := range refusals {
		h := newHeap(t, example)
		m := newModel(example)
		play(t, h, c.ahead)
		playModel(m, c.ahead)
		for i := 0; i < 3; i++ {
			refuse(t, h, c.op, c.errno)
		}
		drain(t, h, m, c.ahead+" / "+c.op)
	}
}

func TestDoNoOperation(t *testing.T) {
	for _, op := range []int{minInt, -1 << 32, -1, 13, 14, 256, 1 << 32, 1<<32 + 1, maxInt} {
		for _, n := range []int{minInt, -1, 0, 1, maxInt} {
			h := newHeap(t, example)
			play(t, h, "int 3, int 4")
			if number, e := h.Do(op, n); number != 0 || e != api.ErrOp {
				t.Errorf("Do(%d, %d) = %d, error %d", op, n, number, e)
			}
			want(t, h, "take", 4)
			want(t, h, "take", 3)
			refuse(t, h, "drop", api.ErrEmpty)
		}
	}
}

// TestDoAnyN: operations that say nothing of n take any.
func TestDoAnyN(t *testing.T) {
	for _, n := range []int{minInt, -1, 0, 1, 99, maxInt} {
		for _, c := range []struct {
			ahead      string
			op, number int
		}{
			{"", api.OpNil, 0}, {"int 1", api.OpDrop, 0}, {"int 1, int 1", api.OpSame, 1}, {"int 8", api.OpTake, 8}, {"new 3", api.OpSize, 3}, {"new 3", api.OpKind, 2},
		} {
			h := newHeap(t, example)
			play(t, h, c.ahead)
			if number, e := h.Do(c.op, n); number != c.number || e != api.OK {
				t.Errorf("%q, then Do(%d, %d) = %d, error %d", c.ahead, c.op, n, number, e)
			}
		}
	}
}

func TestDoEachGlobalIsItsOwn(t *testing.T) {
	h := newHeap(t, api.Config{Blocks: 1, Stack: 1, Globals: 8, Budget: 1, Zero: 10, Over: 0})
	for i := 0; i < 8; i++ {
		h.Do(api.OpInt, 10+i)
		h.Do(api.OpSet, i)
	}
	for i := 0; i < 8; i++ {
		h.Do(api.OpGet, i)
		want(t, h, "take", 10+i)
	}
}

func TestDoNewFieldsAreNil(t *testing.T) {
	for size := 0; size <= api.MaxFields; size++ {
		h := newHeap(t, example)
		h.Do(api.OpNew, size)
		want(t, h, "size", size)
		for i := 0; i < size; i++ {
			play(t, h, "dup 0")
			if _, e := h.Do(api.OpLoad, i); e != api.OK {
				t.Errorf("OpLoad %d of %d: error %d", i, size, e)
			}
			want(t, h, "kind", 0)
			play(t, h, "drop")
		}
	}
}

func TestDoFullHeapGoesOn(t *testing.T) {
	h := newHeap(t, example)
	play(t, h, "new 1, dup 0, int 8, store 0, new 2, new 3")
	refuse(t, h, "new 0", api.ErrFull)
	refuse(t, h, "new 4", api.ErrFull)
	want(t, h, "size", 3)
	want(t, h, "drop, size", 2)
	want(t, h, "drop, load 0, take", 8)
	refuse(t, h, "drop", api.ErrEmpty)
}

func TestDoStore(t *testing.T) {
	for _, c := range []struct {
		text   string
		number int
	}{
		{"new 2, dup 0, int 5, store 1", 0},
		{"new 2, dup 0, int 5, store 1, load 1, take", 5},
		{"new 2, dup 0, int 5, store 1, load 0, kind", 0},
		{"new 2, dup 0, int 5, store 1, dup 0, int 6, store 1, load 1, take", 6},
		{"new 2, dup 0, int 5, store 0, dup 0, int 6, store 1, load 0, take", 5},
		{"new 1, dup 0, int 5, store 0, dup 0, nil, store 0, load 0, kind", 0},
		{"int 9, new 1, int 5, store 0, take", 9},
		{"new 1, dup 0, dup 0, store 0, dup 0, load 0, same", 1},
		{"new 1, dup 0, dup 0, store 0, dup 0, dup 0, store 0, dup 0, load 0, same", 1},
		{"new 1, dup 0, dup 0, store 0, dup 0, nil, store 0, load 0, kind", 0},
		{"new 1, new 2, set 0, dup 0, get 0, store 0, load 0, get 0, same", 1},
		{"new 1, new 2, set 0, dup 0, get 0, store 0, dup 0, get 0, store 0, load 0, get 0, same", 1},
		{"new 1, dup 0, new 2, store 0, dup 0, new 3, store 0, load 0, size", 3},
		{"new 1, dup 0, new 2, store 0, dup 0, load 0, int 5, store 1, load 0, load 1, take", 5},
		{"new 1, set 0, get 0, int 4, store 0, get 0, load 0, take", 4},
	} {
		h := newHeap(t, example)
		want(t, h, c.text, c.number)
	}
}

// TestDoStoreManyTimes has more references to one object than stand in its count, and takes them away again.
func TestDoStoreManyTimes(t *testing.T) {
	for over := 0; over <= 1; over++ {
		h := newHeap(t, api.Config{Blocks: 6, Stack: 6, Globals: 1, Budget: 1, Zero: 8, Over: over})
		play(t, h, "new 1, set 0, get 0, int 77, store 0")
		for i := 0; i < 4; i++ {
			play(t, h, "new 4, dup 0, get 0, store 0, dup 0, get 0, store 1, dup 0, get 0, store 2, dup 0, get 0, store 3")
		}
		for i := 0; i < 4; i++ {
			want(t, h, "dup 0, load 0, get 0, same", 1)
			want(t, h, "dup 0, load 3, load 0, take", 77)
			play(t, h, "dup 0, nil, store 0, dup 0, int 1, store 1, dup 0, nil, store 2, dup 0, nil, store 3, drop")
		}
		want(t, h, "get 0, load 0, take", 77)
	}
}

func TestTwoHeapsKeepApart(t *testing.T) {
	g := newHeap(t, example)
	h := newHeap(t, example)
	play(t, g, "new 1, dup 0, int 5, store 0, set 0, int 1")
	play(t, h, "new 2, dup 0, int 6, store 0, set 0")
	want(t, g, "get 0, size", 1)
	want(t, h, "get 0, size", 2)
	want(t, g, "load 0, take", 5)
	want(t, h, "load 0, take", 6)
	want(t, g, "take", 1)
	refuse(t, h, "take", api.ErrEmpty)
	play(t, g, "new 0, new 0")
	refuse(t, g, "new 0", api.ErrFull)
	play(t, h, "new 0, new 0")
}

// TestDoAtAllNumbers: every operation with far numbers on heaps in several states ends, and an error comes with 0.
func TestDoAtAllNumbers(t *testing.T) {
	far := []int{minInt, minInt + 1, -1 << 32, -2, -1, 0, 1, 2, 3, 4, 5, 8, 12, 16, 99, 100, 1 << 32, maxInt - 1, maxInt}
	for _, ahead := range []string{"", "nil", "int 3", "new 4", "new 1, nil", "new 0, new 0", "new 0, new 0, new 0, int 1"} {
		for _, op := range append([]int{6, 7, 8, 9, 10, 11, 13, 14}, far...) {
			for _, n := range far {
				h := newHeap(t, example)
				play(t, h, ahead)
				number, e := h.Do(op, n)
				if e < api.OK || e > api.ErrFull || e != api.OK && number != 0 {
					t.Errorf("%q, then Do(%d, %d) = %d, error %d", ahead, op, n, number, e)
				}
				endsEmpty(t, h)
			}
		}
	}
}

// endsEmpty pops until the stack is empty, which must be at last.
func endsEmpty(t *testing.T, h *reclaim.Heap) {
	t.Helper()
	for i := 0; i <= api.MaxStack; i++ {
		if _, e := h.Do(api.OpDrop, 0); e == api.ErrEmpty {
			return
		}
	}
	t.Error("the stack never becomes empty")
}
