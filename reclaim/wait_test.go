package reclaim_test

import (
	"strconv"
	"testing"

	"reclaim/api"
)

// TestNewObject: the free block with the least number, fields of nil, the reference on the top (P5).
func TestNewObject(t *testing.T) {
	shows(t, []sight{
		{example, "new 0", "w0[];.;.;||#1|n", api.Gauge{Free: 2, Waiting: 1}},
		{example, "new 1", "w0[n];.;.;||#1|n", api.Gauge{Free: 2, Waiting: 1}},
		{example, "new 4", "w0[n,n,n,n];.;.;||#1|n", api.Gauge{Free: 2, Waiting: 1}},
		{example, "int 8, new 3, new 2, int 9", "w0[n,n,n];w0[n,n];.;||8,#1,#2,9|n", api.Gauge{Free: 1, Waiting: 2}},
	})
}

// TestNewSorts: Zero objects wait, and one more is made.
func TestNewSorts(t *testing.T) {
	full := "new 0, set 0, new 0, drop, new 0, drop, new 0"
	c := conf(6, 2, 1, 4, 0)
	// Global 0 has 1, then 4; block 1 comes to the queue behind greater ones.
	late := "new 0, set 0, new 0, drop, new 0, drop, new 0, set 0, new 0, drop, "
	shows(t, []sight{
		{c, full, "w0[];w0[];w0[];w0[];.;.;||#4|#1", api.Gauge{Free: 2, Waiting: 4}},
		{c, full + ", new 0", "w0[];q0[];q0[];w0[];w0[];.;|2,3|#4,#5|#1", api.Gauge{Free: 1, Waiting: 3, Queued: 2}},
		{c, full + ", new 0, drop, drop, new 0", "w0[];q0[];q0[];w0[];w0[];w0[];|2,3|#6|#1", api.Gauge{Waiting: 4, Queued: 2}},
		{conf(6, 1, 1, 3, 0), late, "w0[];q0[];q0[];w0[];w0[];.;|2,3||#4", api.Gauge{Free: 1, Waiting: 3, Queued: 2}},
		{conf(6, 1, 1, 3, 0), late + "new 0", "q0[];q0[];q0[];w0[];q0[];w0[];|2,3,1,5|#6|#4", api.Gauge{Waiting: 2, Queued: 4}},
		// Block 2 began to wait behind block 3, but goes ahead of it.
		{c, "new 1, set 0, get 0, new 0, store 0, new 0, drop, get 0, nil, store 0, new 0, drop, new 0", "w0[n];q0[];q0[];q0[];w0[];.;|2,3,4|#5|#1", api.Gauge{Free: 1, Waiting: 2, Queued: 3}},
		// What a field holds does not wait, even if the holder comes to the queue.
		{conf(5, 2, 0, 3, 0), "new 1, new 0, store 0, new 0, drop, new 0, drop, new 0", "q0[#2];h1[];q0[];q0[];w0[];|1,3,4|#5|", api.Gauge{Waiting: 1, Queued: 3}},
		// A number that is a block's is no root of it.
		{conf(4, 1, 1, 3, 0), "int 1, set 0, new 0, drop, new 0, drop, new 0, drop, new 0", "q0[];q0[];q0[];w0[];|1,2,3|#4|1", api.Gauge{Waiting: 1, Queued: 3}},
	})
}

// TestNewSortsNothingStuck: a stuck object that nothing holds any more is passed over.
func TestNewSortsNothingStuck(t *testing.T) {
	shows(t, []sight{{
		conf(7, 4, 1, 6, 0),
		"new 0, set 0, " + hold(4, 0) + hold(4, 0) + wipe(0) + wipe(1) + "nil, set 0, drop, drop, new 0, drop, new 0, drop, new 0, drop, new 0, drop",
		"s[];w0[n,n,n,n];w0[n,n,n,n];w0[];w0[];w0[];w0[];|||n",
		api.Gauge{Waiting: 6, Stuck: 1},
	}, {
		conf(8, 4, 1, 6, 0),
		"new 0, set 0, " + hold(4, 0) + hold(4, 0) + wipe(0) + wipe(1) + "nil, set 0, drop, drop, new 0, drop, new 0, drop, new 0, drop, new 0, drop, new 0",
		"s[];q0[n,n,n,n];q0[n,n,n,n];q0[];q0[];q0[];q0[];w0[];|2,3,4,5,6,7|#8|n",
		api.Gauge{Waiting: 1, Queued: 6, Stuck: 1},
	}})
}

// TestNewRefusedSortsNothing: Zero objects wait, and the one more is refused.
func TestNewRefusedSortsNothing(t *testing.T) {
	h := newHeap(t, conf(5, 1, 0, 2, 0))
	play(t, h, "new 0, drop, new 0")
	refuse(t, h, "new 0", api.ErrDeep)
	refuse(t, h, "new 5", api.ErrIndex)
	play(t, h, "drop")
	refuse(t, h, "new 5", api.ErrIndex)
	refuse(t, h, "new -1", api.ErrIndex)
	if dump := h.Dump(); dump != "w0[];w0[];.;.;.;|||" {
		t.Errorf("Dump %q", dump)
	}
}

// TestStoreSorts: Zero objects wait, and one more comes to have the count 0 (P6).
func TestStoreSorts(t *testing.T) {
	held := "new 1, set 0, get 0, new 0, store 0, new 0, drop, new 0, drop, new 0, drop, "
	popped := "new 1, dup 0, new 0, store 0, new 0, drop, new 0, drop, new 0, drop, "
	shows(t, []sight{
		{conf(6, 3, 1, 5, 0), held + "get 0, nil, store 0", "w0[n];w0[];w0[];w0[];w0[];.;|||#1", api.Gauge{Free: 1, Waiting: 5}},
		// Block 2 waits though no root has it: the sorting was done without it.
		{conf(6, 3, 1, 5, 0), held + "new 0, drop, get 0, nil, store 0", "w0[n];w0[];q0[];q0[];q0[];q0[];|3,4,5,6||#1", api.Gauge{Waiting: 2, Queued: 4}},
		// The new value waits no more when the old one comes to.
		{conf(6, 3, 1, 5, 0), held + "get 0, new 0, store 0", "w0[#6];w0[];w0[];w0[];w0[];h1[];|||#1", api.Gauge{Waiting: 5}},
		// Both values are popped first, so the holder is no root's any more.
		{conf(6, 3, 0, 4, 0), popped + "nil, store 0", "q0[n];w0[];q0[];q0[];q0[];.;|1,3,4,5||", api.Gauge{Free: 1, Waiting: 1, Queued: 4}},
		{conf(6, 3, 0, 4, 0), popped + "dup 0, nil, store 0", "w0[n];w0[];q0[];q0[];q0[];.;|3,4,5|#1|", api.Gauge{Free: 1, Waiting: 2, Queued: 3}},
		// The same reference again: nothing else changes.
		{conf(6, 3, 0, 4, 0), popped + "dup 0, dup 0, load 0, store 0", "w0[#2];h1[];w0[];w0[];w0[];.;||#1|", api.Gauge{Free: 1, Waiting: 4}},
		// A count that does not come to 0.
		{conf(6, 3, 0, 4, 0), "new 2, dup 0, new 0, store 0, dup 0, dup 0, load 0, store 1, new 0, drop, new 0, drop, new 0, drop, dup 0, nil, store 1", "w0[#2,n];h1[];w0[];w0[];w0[];.;||#1|", api.Gauge{Free: 1, Waiting: 4}},
		// An object that held itself.
		{conf(5, 3, 0, 4, 0), "new 1, dup 0, dup 0, store 0, new 0, drop, new 0, drop, new 0, drop, new 0, drop, nil, store 0", "w0[n];q0[];q0[];q0[];q0[];|2,3,4,5||", api.Gauge{Waiting: 1, Queued: 4}},
	})
}

// TestAtMostZeroWait: with any Zero, as many as Zero wait, and with one more only that one.
func TestAtMostZeroWait(t *testing.T) {
	for zero := 2; zero <= api.MaxZero-1; zero++ {
		h := newHeap(t, conf(99, 1, 0, zero, 0))
		for i := 1; i <= zero; i++ {
			play(t, h, "new 0, drop")
			if gauge := h.Gauge(); gauge != (api.Gauge{Free: 99 - i, Waiting: i}) {
				t.Fatalf("Zero %d, %d objects: Gauge %+v", zero, i, gauge)
			}
		}
		play(t, h, "new 0")
		if gauge := h.Gauge(); gauge != (api.Gauge{Free: 98 - zero, Waiting: 1, Queued: zero}) {
			t.Errorf("Zero %d and one more: Gauge %+v", zero, gauge)
		}
	}
}

// TestEachRootKeepsItsObject: every place on the stack and every global keeps an object from the queue.
func TestEachRootKeepsItsObject(t *testing.T) {
	h := newHeap(t, conf(99, 4, 8, 13, 0))
	for i := 0; i < 8; i++ {
		play(t, h, "new 0, set "+strconv.Itoa(i))
	}
	play(t, h, "new 0, new 0, new 0")
	for i := 0; i < 80; i++ {
		play(t, h, "new 0, drop")
	}
	gauge := h.Gauge()
	if gauge.Waiting < 11 || gauge.Waiting+gauge.Queued != 91 || gauge.Free != 8 {
		t.Errorf("Gauge %+v", gauge)
	}
	dump := h.Dump()
	for i := 0; i < 11; i++ {
		if dump[5*i] != 'w' {
			t.Errorf("block %d: Dump %q", i+1, dump)
		}
	}
}
