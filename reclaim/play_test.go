package reclaim_test

import (
	"strconv"
	"strings"
	"testing"

	"reclaim/api"
	"reclaim/reclaim"
)

const (
	maxInt = 1<<63 - 1
	minInt = -1 << 63
)

var opNames = []string{"nil", "int", "new", "dup", "drop", "get", "set", "load", "store", "same", "take", "size", "kind"}

// example is the configuration of the document's examples.
var example = api.Config{Blocks: 3, Stack: 4, Globals: 1, Budget: 1, Zero: 6, Over: 0}

func newHeap(t *testing.T, c api.Config) *reclaim.Heap {
	t.Helper()
	h, e := reclaim.New(c)
	if h == nil || e != api.OK {
		t.Fatalf("New(%+v) = %v, %d", c, h, e)
	}
	return h
}

// step does one operation that is written as a text, as "new 2".
func step(t *testing.T, h *reclaim.Heap, text string) (int, api.Errno) {
	t.Helper()
	words := strings.Fields(text)
	n := 0
	if len(words) == 2 {
		var err error
		n, err = strconv.Atoi(words[1])
		if err != nil {
			t.Fatalf("%q: %v", text, err)
		}
	}
	for op, name := range opNames {
		if name == words[0] {
			return h.Do(op, n)
		}
	}
	t.Fatalf("%q is no operation", text)
	return 0, api.OK
}

// play does operations with commas between that must all be OK, and answers the number of the last.
func play(t *testing.T, h *reclaim.Heap, text string) int {
	t.Helper()
	last := 0
	if text == "" {
		return last
	}
	for _, one := range strings.Split(text, ",") {
		n, e := step(t, h, one)
		if e != api.OK {
			t.Fatalf("%q in %q: error %d", one, text, e)
		}
		last = n
	}
	return last
}

// want does operations that must all be OK, and looks at the number of the last.
func want(t *testing.T, h *reclaim.Heap, text string, number int) {
	t.Helper()
	if n := play(t, h, text); n != number {
		t.Errorf("%q = %d, want %d", text, n, number)
	}
}

// refuse does one operation that must answer this error.
func refuse(t *testing.T, h *reclaim.Heap, text string, errno api.Errno) {
	t.Helper()
	if n, e := step(t, h, text); n != 0 || e != errno {
		t.Errorf("%q = %d, error %d, want 0, error %d", text, n, e, errno)
	}
}
