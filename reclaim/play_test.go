package reclaim_test

import (
	"slices"
	"strconv"
	"strings"
	"testing"

	"reclaim/api"
	"reclaim/reclaim"
)

const (
	maxInt = 1<<63 - 1
	minInt = -1 << 63
)

var opNames = []string{"nil", "int", "new", "dup", "drop", "get", "set", "load", "store", "same", "take", "size", "kind"}

// opSafe and opCollect stand for a Safepoint and a Collect among operations.
const (
	opSafe    = 1000
	opCollect = 1001
)

// example is the configuration of the document's examples.
var example = api.Config{Blocks: 3, Stack: 4, Globals: 1, Budget: 1, Zero: 6, Over: 0}

func newHeap(t *testing.T, c api.Config) *reclaim.Heap {
	t.Helper()
	h, e := reclaim.New(c)
	if h == nil || e != api.OK {
		t.Fatalf("New(%+v) = %v, %d", c, h, e)
	}
	return h
}

// call is an operation with its number, or a Safepoint or a Collect with the number that it must answer.
type call struct{ op, n int }

// calls reads operations with commas between, as "new 2, dup 0, drop, safe 1, collect 0".
func calls(text string) []call {
	var all []call
	for _, one := range strings.Split(text, ",") {
		words := strings.Fields(one)
		if len(words) == 0 {
			continue
		}
		c := call{op: slices.Index(opNames, words[0])}
		switch words[0] {
		case "safe":
			c.op = opSafe
		case "collect":
			c.op = opCollect
		}
		if len(words) == 2 {
			n, err := strconv.Atoi(words[1])
			if err != nil {
				panic(text)
			}
			c.n = n
		}
		if c.op < 0 || len(words) > 2 {
			panic(text)
		}
		all = append(all, c)
	}
	return all
}

// doAny does an operation, or what stands among the operations for another call.
func doAny(h *reclaim.Heap, op, n int) (int, api.Errno) {
	switch op {
	case opSafe:
		return h.Safepoint(), api.OK
	case opCollect:
		return h.Collect(), api.OK
	}
	return h.Do(op, n)
}

// play does operations that must all be OK, and answers the number of the last. Each Safepoint and Collect must answer its number.
func play(t *testing.T, h *reclaim.Heap, text string) int {
	t.Helper()
	last := 0
	for i, c := range calls(text) {
		n, e := doAny(h, c.op, c.n)
		if c.op == opSafe || c.op == opCollect {
			if n != c.n {
				t.Errorf("call %d of %q: %d blocks freed, want %d", i, text, n, c.n)
			}
			continue
		}
		if e != api.OK {
			t.Fatalf("operation %d of %q: error %d", i, text, e)
		}
		last = n
	}
	return last
}

// want does operations that must all be OK, and looks at the number of the last.
func want(t *testing.T, h *reclaim.Heap, text string, number int) {
	t.Helper()
	if n := play(t, h, text); n != number {
		t.Errorf("%q = %d, want %d", text, n, number)
	}
}

// refuse does one operation that must answer this error and change nothing that is seen.
func refuse(t *testing.T, h *reclaim.Heap, text string, errno api.Errno) {
	t.Helper()
	dump := h.Dump()
	gauge := h.Gauge()
	c := calls(text)[0]
	if n, e := h.Do(c.op, c.n); n != 0 || e != errno {
		t.Errorf("%q = %d, error %d, want 0, error %d", text, n, e, errno)
	}
	if after := h.Dump(); after != dump {
		t.Errorf("%q, error %d: Dump %q became %q", text, errno, dump, after)
	}
	if after := h.Gauge(); after != gauge {
		t.Errorf("%q, error %d: Gauge %+v became %+v", text, errno, gauge, after)
	}
}
