package reclaim_test

import (
	"math/rand"
	"strconv"
	"strings"
	"testing"

	"reclaim/api"
	"reclaim/reclaim"
)

// TestNewCollects: OpNew of a heap with no free block and an empty queue, some of whose objects are not reachable (P5).
func TestNewCollects(t *testing.T) {
	c := conf(3, 5, 1, 7, 0)
	shows(t, []sight{
		{c, "new 0, new 0, new 0, drop, new 4", "w0[];w0[];w0[n,n,n,n];||#1,#2,#3|n", api.Gauge{Waiting: 3}},
		{c, "new 0, new 0, set 0, new 0, nil, set 0, new 2", "w0[];w0[n,n];w0[];||#1,#3,#2|n", api.Gauge{Waiting: 3}},
		{c, "new 0, set 0, new 0, new 0, nil, set 0, new 1", "w0[n];w0[];w0[];||#2,#3,#1|n", api.Gauge{Waiting: 3}},
		// All that is not reachable goes, not only as much as is needed.
		{c, "new 0, new 0, drop, new 0, drop, new 1", "w0[];w0[n];.;||#1,#2|n", api.Gauge{Free: 1, Waiting: 2}},
		{c, ring + ring + ring + "new 0", "w0[];.;.;||#1|n", api.Gauge{Free: 2, Waiting: 1}},
		{c, linked + "drop, drop, new 0, new 0", "w0[];.;w0[];||#3,#1|n", api.Gauge{Free: 1, Waiting: 2}},
		{c, "new 1, new 1, new 0, store 0, new 0", "w0[n];w0[];.;||#1,#2|n", api.Gauge{Free: 1, Waiting: 2}},
		// What was stuck is set right, and what holds the new object's place is gone.
		{c, stuckOne + "drop, new 0", "h4[];w0[#1,#1,#1,#1];w0[];||#2,#3|#1", api.Gauge{Waiting: 2}},
		{c, stuckOne + "drop, drop, new 0", "w0[];w0[];.;||#2|#1", api.Gauge{Free: 1, Waiting: 2}},
		{c, stuckOne + "drop, drop, nil, set 0, new 0", "w0[];.;.;||#1|n", api.Gauge{Free: 2, Waiting: 1}},
		// As many as Zero wait: they are gone, not sorted.
		{conf(2, 1, 0, 2, 0), "new 0, drop, new 0, drop, new 0", "w0[];.;||#1|", api.Gauge{Free: 1, Waiting: 1}},
	})
}

// TestNewExtras: the collection of an OpNew hands out the extras too.
func TestNewExtras(t *testing.T) {
	rest := "w0[#2,#2,#2,#2];w0[#2,#2,#2,#2];w0[#1,#1,#1,#1];w0[#1,#1,#1,#1];w0[];||#3,#4,#5,#6,#7|#1,#2"
	for over, first := range []string{"s[];s[];", "h8[];s[];", "h8[];h8[];"} {
		gauge := api.Gauge{Waiting: 5, Extras: over, Stuck: 2 - over}
		shows(t, []sight{{conf(7, 7, 2, 10, over), lateFirst + ring + "new 0", first + rest, gauge}})
	}
}

// TestNewFreesAheadOfCollecting: while the queue is not empty there is no collection, and rings and stuck objects stay.
func TestNewFreesAheadOfCollecting(t *testing.T) {
	c := conf(5, 5, 1, 7, 0)
	// Block 4 is the first of the queue.
	full := stuckOne + "drop, new 0, drop, safe 1, new 0, new 0, "
	shows(t, []sight{
		{c, full, "s[];w0[#1,#1,#1,#1];w0[];q0[];w0[];|4|#2,#3,#5|#1", api.Gauge{Waiting: 3, Queued: 1, Stuck: 1}},
		{c, full + "new 1", "s[];w0[#1,#1,#1,#1];w0[];w0[n];w0[];||#2,#3,#5,#4|#1", api.Gauge{Waiting: 4, Stuck: 1}},
		{c, full + "new 1, drop, new 2", "h4[];w0[#1,#1,#1,#1];w0[];w0[n,n];w0[];||#2,#3,#5,#4|#1", api.Gauge{Waiting: 4}},
		{conf(4, 3, 0, 4, 0), "new 0, drop, new 0, drop, safe 1, " + ring + ring + "new 0, new 0", "h1[#1];w0[];h1[#3];w0[];||#4,#2|", api.Gauge{Waiting: 2}},
		{conf(4, 3, 0, 4, 0), "new 0, drop, new 0, drop, safe 1, " + ring + ring + "new 0, new 0, new 0", "w0[];w0[];.;w0[];||#4,#2,#1|", api.Gauge{Free: 1, Waiting: 3}},
	})
}

// TestNewFull: every block has a reachable object. The collection has been, and nothing else changes (P5).
func TestNewFull(t *testing.T) {
	c := conf(3, 5, 1, 7, 0)
	four := "[#1,#1,#1,#1];"
	for _, s := range []sight{
		{conf(1, 2, 0, 3, 0), "new 0", "w0[];||#1|", api.Gauge{Waiting: 1}},
		{c, "new 0, new 0, new 0, int 8", "w0[];w0[];w0[];||#1,#2,#3,8|n", api.Gauge{Waiting: 3}},
		{c, "new 1, set 0, get 0, new 1, store 0, get 0, load 0, new 0, store 0", "w0[#2];h1[#3];h1[];|||#1", api.Gauge{Waiting: 1}},
		{c, linked + "set 0, drop, new 0", "h1[#2];h1[#1];w0[];||#3|#2", api.Gauge{Waiting: 1}},
		{c, stuckOne, "s[];w0" + four + "w0" + four + "||#2,#3|#1", api.Gauge{Waiting: 2, Stuck: 1}},
		{c, stuckOne + "dup 0, nil, store 0", "h7[];w0" + four + "w0[n,#1,#1,#1];||#2,#3|#1", api.Gauge{Waiting: 2}},
		{c, stuckOne + wipe(0), "h4[];w0" + four + "w0[n,n,n,n];||#2,#3|#1", api.Gauge{Waiting: 2}},
		{c, stuckOne + wipe(0) + wipe(1), "w0[];w0[n,n,n,n];w0[n,n,n,n];||#2,#3|#1", api.Gauge{Waiting: 3}},
		{conf(6, 6, 2, 9, 1), lateFirst, "h8[];s[];w0[#2,#2,#2,#2];w0[#2,#2,#2,#2];w0" + four + "w0" + four + "||#3,#4,#5,#6|#1,#2", api.Gauge{Waiting: 4, Extras: 1, Stuck: 1}},
	} {
		h := newHeap(t, s.config)
		play(t, h, s.text)
		for _, n := range []int{0, 4} {
			if number, e := h.Do(api.OpNew, n); number != 0 || e != api.ErrFull {
				t.Errorf("%q, OpNew %d = %d, error %d", s.text, n, number, e)
			}
			if dump := h.Dump(); dump != s.dump {
				t.Errorf("%q, OpNew %d: Dump\n%s, want\n%s", s.text, n, dump, s.dump)
			}
			if gauge := h.Gauge(); gauge != s.gauge {
				t.Errorf("%q, OpNew %d: Gauge %+v, want %+v", s.text, n, gauge, s.gauge)
			}
		}
		play(t, h, "collect 0, nil, drop")
	}
}

// TestNewRefusedCollectsNothing: the errors ahead of ErrFull leave what is not reachable, and what is stuck.
func TestNewRefusedCollectsNothing(t *testing.T) {
	for _, c := range []struct {
		text string
		due  int // of a Collect behind it
	}{
		{stuckOne + "dup 0, nil, store 0, ", 0}, {stuckOne + "drop, ", 1}, {ring + ring + ring, 3}, {"new 0, drop, new 0, drop, new 0, drop, ", 3},
	} {
		h := newHeap(t, conf(3, 5, 1, 7, 0))
		play(t, h, c.text)
		refuseNew := func(errno api.Errno, sizes ...string) {
			for _, n := range sizes {
				refuse(t, h, "new "+n, errno)
			}
		}
		refuseNew(api.ErrIndex, "-1", "5", "9223372036854775807", "-9223372036854775808")
		for {
			if _, e := h.Do(api.OpNil, 0); e != api.OK {
				break
			}
		}
		refuseNew(api.ErrIndex, "-1", "5", "9223372036854775807", "-9223372036854775808")
		refuseNew(api.ErrDeep, "0", "4")
		play(t, h, "collect "+strconv.Itoa(c.due))
	}
}

// TestNewFullJustIfAllIsReachable: rings are never in the way; a chain from a global is, once it has all blocks (P11).
func TestNewFullJustIfAllIsReachable(t *testing.T) {
	for blocks := 1; blocks <= api.MaxBlocks; blocks++ {
		h := newHeap(t, conf(blocks, 3, 1, 5, 0))
		play(t, h, strings.Repeat(ring, 2*blocks+1))
		for i := 0; i < blocks; i++ {
			play(t, h, "new 2, dup 0, get 0, store 0, dup 0, dup 0, store 1, set 0")
		}
		refuse(t, h, "new 0", api.ErrFull)
		refuse(t, h, "new 4", api.ErrFull)
		if blocks > 1 {
			play(t, h, "get 0, load 0, set 0, new 0, set 0")
		}
		play(t, h, "nil, set 0, new 0, drop, collect 1")
	}
}

// alike are heaps that P11 says answer alike: the same Blocks, Stack and Globals, another Budget, Zero and Over.
func alike(t *testing.T, draw *rand.Rand, c api.Config) []*reclaim.Heap {
	t.Helper()
	least := c.Stack + c.Globals + 1
	var heaps []*reclaim.Heap
	for _, other := range [][3]int{
		{1, least, 0}, {99, 99, 9}, {1, 99, 0}, {99, least, 9}, {1, least, 1}, {1 + draw.Intn(99), least + draw.Intn(100-least), draw.Intn(10)},
	} {
		c.Budget, c.Zero, c.Over = other[0], other[1], other[2]
		heaps = append(heaps, newHeap(t, c))
	}
	return heaps
}

// asking moves look at what the roots lead to.
var asking = []string{
	"get G, size, load F, kind, take", "get G, load F, get H, same", "get G, load F, load F, size, take", "dup F, size, load F, kind", "same, int 1, int -1, same", "new 4, set G",
}

// TestDoAnswersAlike: the same operations on all of them, with Safepoints and Collects in between as each has them (P11).
func TestDoAnswersAlike(t *testing.T) {
	errors := map[api.Errno]int{}
	all := [][]string{moves, ringless, fleeting, crowding}
	for seed := int64(0); seed < 1000; seed++ {
		draw := rand.New(rand.NewSource(seed))
		c := conf(2+draw.Intn(20), 3+draw.Intn(3), 4, 99, 0)
		heaps := alike(t, draw, c)
		m := newModel(c)
		for i := 0; i < 200; i++ {
			move := drawMove(draw, all[seed%4], c.Globals)
			if draw.Intn(4) == 0 {
				move = drawMove(draw, asking, c.Globals)
			}
			about := "seed " + strconv.FormatInt(seed, 10) + ", move " + strconv.Itoa(i) + ", " + move
			for _, one := range calls(move) {
				between(heaps, draw)
				errors[answerAs(t, heaps, m, one, about)]++
			}
		}
		for k, h := range heaps {
			h.Collect()
			if free := h.Gauge().Free; free != c.Blocks-len(m.reachable()) {
				t.Fatalf("seed %d, heap %d: %d free behind Collect, want %d", seed, k, free, c.Blocks-len(m.reachable()))
			}
		}
	}
	for e := api.OK; e <= api.ErrFull; e++ {
		if e != api.ErrConfig && e != api.ErrOp && errors[e] < 100 {
			t.Errorf("error %d came %d times", e, errors[e])
		}
	}
}

// answerAs: an operation on all heaps answers as the model's, whose errors hang on what is reachable alone.
func answerAs(t *testing.T, heaps []*reclaim.Heap, m *model, one call, about string) api.Errno {
	t.Helper()
	if one.op == opSafe || one.op == opCollect {
		return api.OK
	}
	wantNumber, wantErrno := m.do(one.op, one.n)
	for k, h := range heaps {
		if number, errno := h.Do(one.op, one.n); number != wantNumber || errno != wantErrno {
			t.Fatalf("%s, heap %d: Do(%d, %d) = %d, error %d, want %d, error %d", about, k, one.op, one.n, number, errno, wantNumber, wantErrno)
		}
	}
	return wantErrno
}

// between: heap 0 has neither Safepoints nor Collects, the next two have the one or the other each time, the rest now and then.
func between(heaps []*reclaim.Heap, draw *rand.Rand) {
	heaps[1].Safepoint()
	heaps[2].Collect()
	for _, h := range heaps[3:] {
		switch draw.Intn(20) {
		case 0:
			h.Safepoint()
		case 1:
			h.Collect()
		}
	}
}
