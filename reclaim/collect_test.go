package reclaim_test

import (
	"strconv"
	"strings"
	"testing"

	"reclaim/api"
)

// ring is an object that holds itself, and that no root has; linked are two that hold each other and are on the stack.
const (
	ring   = "new 1, dup 0, dup 0, store 0, drop, "
	linked = "new 1, new 1, dup 1, dup 1, store 0, dup 0, dup 2, store 0, "
)

func TestCollectExamples(t *testing.T) {
	shows(t, []sight{
		{example, "collect 0", ".;.;.;|||n", api.Gauge{Free: 3}},
		{example, ring + "safe 0, collect 1", ".;.;.;|||n", api.Gauge{Free: 3}},
		{example, ring + "safe 0, collect 1, collect 0", ".;.;.;|||n", api.Gauge{Free: 3}},
		{example, "new 0, drop, new 0, drop, new 0, drop, new 0", "w0[];.;.;||#1|n", api.Gauge{Free: 2, Waiting: 1}},
	})
	h := newHeap(t, example)
	play(t, h, "new 0, new 0, new 0")
	refuse(t, h, "new 0", api.ErrFull)
	play(t, h, "drop, new 0")
	if dump := h.Dump(); dump != "w0[];w0[];w0[];||#1,#2,#3|n" {
		t.Errorf("Dump %q", dump)
	}
}

// TestCollectRings: a ring goes or stays, as no root leads to it or one does.
func TestCollectRings(t *testing.T) {
	c := conf(4, 4, 1, 6, 0)
	shows(t, []sight{
		{c, "new 1, dup 0, dup 0, store 0, collect 0", "h1[#1];.;.;.;||#1|n", api.Gauge{Free: 3}},
		{c, "new 1, dup 0, dup 0, store 0, set 0, collect 0", "h1[#1];.;.;.;|||#1", api.Gauge{Free: 3}},
		{c, linked + "drop, drop, safe 0, collect 2", ".;.;.;.;|||n", api.Gauge{Free: 4}},
		{c, linked + "drop, collect 0", "h1[#2];h1[#1];.;.;||#1|n", api.Gauge{Free: 2}},
		{c, linked + "set 0, drop, collect 0", "h1[#2];h1[#1];.;.;|||#2", api.Gauge{Free: 2}},
		// A root leads to the ring by way of another object, and to what the ring holds.
		{c, "new 1, dup 0, new 2, store 0, dup 0, load 0, dup 0, dup 0, store 1, new 0, store 0, collect 0", "w0[#2];h2[#3,#2];h1[];.;||#1|n", api.Gauge{Free: 1, Waiting: 1}},
		{c, "new 1, dup 0, new 2, store 0, dup 0, load 0, dup 0, dup 0, store 1, new 0, store 0, drop, collect 3", ".;.;.;.;|||n", api.Gauge{Free: 4}},
		// A ring that goes holds one that stays, which waits then.
		{c, "new 0, set 0, new 2, dup 0, dup 0, store 0, get 0, store 1, collect 1", "w0[];.;.;.;|||#1", api.Gauge{Free: 3, Waiting: 1}},
		{c, "new 0, new 2, dup 0, dup 0, store 0, dup 1, store 1, collect 1", "w0[];.;.;.;||#1|n", api.Gauge{Free: 3, Waiting: 1}},
		// Two rings, one of them reached.
		{c, ring + "new 1, dup 0, dup 0, store 0, collect 1", ".;h1[#2];.;.;||#2|n", api.Gauge{Free: 3}},
	})
}

// TestCollectMarks: every root, and every field of what is reachable.
func TestCollectMarks(t *testing.T) {
	c := conf(5, 4, 2, 7, 0)
	two := "new 0, drop, new 0, drop, "
	shows(t, []sight{
		{c, two + "collect 2", ".;.;.;.;.;|||n,n", api.Gauge{Free: 5}},
		{c, two + "new 0, new 0, new 0, collect 2", ".;.;w0[];w0[];w0[];||#3,#4,#5|n,n", api.Gauge{Free: 2, Waiting: 3}},
		{c, two + "new 0, set 0, new 0, set 1, collect 2", ".;.;w0[];w0[];.;|||#3,#4", api.Gauge{Free: 3, Waiting: 2}},
		{c, two + "new 1, dup 0, new 1, store 0, dup 0, load 0, new 1, store 0, collect 2", ".;.;w0[#4];h1[#5];h1[n];||#3|n,n", api.Gauge{Free: 2, Waiting: 1}},
		{c, "new 4, set 1, get 1, new 0, store 0, get 1, new 0, store 1, get 1, new 0, store 2, get 1, new 0, store 3, collect 0", "w0[#2,#3,#4,#5];h1[];h1[];h1[];h1[];|||n,#1", api.Gauge{Waiting: 1}},
		// Two ways lead to one object.
		{c, "new 0, set 0, new 1, dup 0, get 0, store 0, new 1, dup 0, get 0, store 0, collect 0", "h2[];w0[#1];w0[#1];.;.;||#2,#3|#1,n", api.Gauge{Free: 2, Waiting: 2}},
		{c, "new 0, set 0, new 1, dup 0, get 0, store 0, new 1, dup 0, get 0, store 0, drop, collect 1", "h1[];w0[#1];.;.;.;||#2|#1,n", api.Gauge{Free: 3, Waiting: 1}},
		// Numbers that are blocks' lead nowhere, and far ones do no harm.
		{c, two + "int 1, int 2, set 0, collect 2", ".;.;.;.;.;||1|2,n", api.Gauge{Free: 5}},
		{c, "new 1, dup 0, int 2, store 0, new 0, drop, collect 1", "w0[2];.;.;.;.;||#1|n,n", api.Gauge{Free: 4, Waiting: 1}},
		{c, "new 2, dup 0, int 9223372036854775807, store 0, dup 0, int -9223372036854775808, store 1, int 9223372036854775807, int -9223372036854775808, set 0, int 100, set 1, collect 0",
			"w0[9223372036854775807,-9223372036854775808];.;.;.;.;||#1,9223372036854775807|-9223372036854775808,100", api.Gauge{Free: 4, Waiting: 1}},
		// What is freed leaves nothing in its block.
		{c, "new 2, dup 0, int 5, store 0, new 0, store 1, collect 2, new 3, new 0", "w0[n,n,n];w0[];.;.;.;||#1,#2|n,n", api.Gauge{Free: 3, Waiting: 2}},
	})
}

// TestCollectQueue: what is in the queue goes, what waits goes unless a root has it.
func TestCollectQueue(t *testing.T) {
	c := conf(5, 3, 1, 5, 0)
	queued := "new 0, drop, new 0, drop, new 0, drop, safe 1, "
	holder := "new 0, set 0, new 0, drop, new 1, get 0, store 0, safe 1, "
	shows(t, []sight{
		{c, queued, ".;q0[];q0[];.;.;|2,3||n", api.Gauge{Free: 3, Queued: 2}},
		{c, queued + "collect 2", ".;.;.;.;.;|||n", api.Gauge{Free: 5}},
		{c, queued + "collect 2, safe 0, collect 0", ".;.;.;.;.;|||n", api.Gauge{Free: 5}},
		{c, queued + "new 0, set 0, new 0, drop, collect 3", "w0[];.;.;.;.;|||#1", api.Gauge{Free: 4, Waiting: 1}},
		{c, queued + "new 0, set 0, new 0, drop, collect 3, new 0, drop, new 0, drop, safe 1", "w0[];.;q0[];.;.;|3||#1", api.Gauge{Free: 3, Waiting: 1, Queued: 1}},
		// What is in the queue holds another.
		{c, "new 0, drop, new 1, new 0, store 0, safe 1, collect 2", ".;.;.;.;.;|||n", api.Gauge{Free: 5}},
		{c, holder, "h1[];.;q0[#1];.;.;|3||#1", api.Gauge{Free: 3, Queued: 1}},
		{c, holder + "collect 1", "w0[];.;.;.;.;|||#1", api.Gauge{Free: 4, Waiting: 1}},
		{c, holder + "collect 1, nil, set 0, safe 1", ".;.;.;.;.;|||n", api.Gauge{Free: 5}},
		// Budget is nothing to a collection.
		{c, "new 0, drop, new 0, drop, new 0, drop, new 0, drop, new 0, drop, collect 5", ".;.;.;.;.;|||n", api.Gauge{Free: 5}},
	})
}

// stuckOne: object 1 is in global 0 and is held by all fields of 2 and 3, which are on the stack.
var stuckOne = "new 0, set 0, " + hold(4, 0) + hold(4, 0)

// TestCollectStuck: what was stuck is counted anew, without the fields of what goes.
func TestCollectStuck(t *testing.T) {
	c := conf(5, 5, 1, 7, 0)
	shows(t, []sight{
		{c, stuckOne + "collect 0", "s[];w0[#1,#1,#1,#1];w0[#1,#1,#1,#1];.;.;||#2,#3|#1", api.Gauge{Free: 2, Waiting: 2, Stuck: 1}},
		{c, stuckOne + "dup 0, nil, store 0, collect 0", "h7[];w0[#1,#1,#1,#1];w0[n,#1,#1,#1];.;.;||#2,#3|#1", api.Gauge{Free: 2, Waiting: 2}},
		{c, stuckOne + "dup 0, nil, store 0, collect 0, dup 0, get 0, store 0", "s[];w0[#1,#1,#1,#1];w0[#1,#1,#1,#1];.;.;||#2,#3|#1", api.Gauge{Free: 2, Waiting: 2, Stuck: 1}},
		{c, stuckOne + "drop, collect 1", "h4[];w0[#1,#1,#1,#1];.;.;.;||#2|#1", api.Gauge{Free: 3, Waiting: 1}},
		{c, stuckOne + wipe(0) + "dup 1, nil, store 0, dup 1, nil, store 1, dup 1, nil, store 2, collect 0", "h1[];w0[n,n,n,#1];w0[n,n,n,n];.;.;||#2,#3|#1", api.Gauge{Free: 2, Waiting: 2}},
		// Nothing but a field of what goes brings the count above MaxCount.
		{c, "new 0, set 0, " + hold(4, 0) + hold(3, 0) + hold(1, 0), "s[];w0[#1,#1,#1,#1];w0[#1,#1,#1,n];w0[#1,n,n,n];.;||#2,#3,#4|#1", api.Gauge{Free: 1, Waiting: 3, Stuck: 1}},
		{c, "new 0, set 0, " + hold(4, 0) + hold(3, 0) + hold(1, 0) + "drop, collect 1", "h7[];w0[#1,#1,#1,#1];w0[#1,#1,#1,n];.;.;||#2,#3|#1", api.Gauge{Free: 2, Waiting: 2}},
		{c, stuckOne + hold(1, 0) + "drop, collect 1", "s[];w0[#1,#1,#1,#1];w0[#1,#1,#1,#1];.;.;||#2,#3|#1", api.Gauge{Free: 2, Waiting: 2, Stuck: 1}},
		// With the count 0 it waits, and is freed like any other once no root has it.
		{c, stuckOne + wipe(0) + wipe(1) + "collect 0", "w0[];w0[n,n,n,n];w0[n,n,n,n];.;.;||#2,#3|#1", api.Gauge{Free: 2, Waiting: 3}},
		{c, stuckOne + wipe(0) + wipe(1) + "collect 0, nil, set 0, safe 1", ".;w0[n,n,n,n];w0[n,n,n,n];.;.;||#2,#3|n", api.Gauge{Free: 3, Waiting: 2}},
		{c, stuckOne + "drop, drop, collect 2", "w0[];.;.;.;.;|||#1", api.Gauge{Free: 4, Waiting: 1}},
		{c, stuckOne + "drop, drop, safe 1, safe 1, safe 0, collect 0", "w0[];.;.;.;.;|||#1", api.Gauge{Free: 4, Waiting: 1}},
		// No root leads to it.
		{c, stuckOne + "drop, drop, nil, set 0, collect 3", ".;.;.;.;.;|||n", api.Gauge{Free: 5}},
		{c, stuckOne + "drop, drop, nil, set 0, safe 1, safe 1, safe 0, collect 1", ".;.;.;.;.;|||n", api.Gauge{Free: 5}},
		// Its own fields count too.
		{c, "new 4, set 0, get 0, get 0, store 0, get 0, get 0, store 1, get 0, get 0, store 2, get 0, get 0, store 3, " + hold(4, 0) + "collect 0", "s[#1,#1,#1,#1];w0[#1,#1,#1,#1];.;.;.;||#2|#1", api.Gauge{Free: 3, Waiting: 1, Stuck: 1}},
		{c, "new 4, set 0, get 0, get 0, store 0, get 0, get 0, store 1, get 0, get 0, store 2, get 0, get 0, store 3, " + hold(4, 0) + "drop, collect 1", "h4[#1,#1,#1,#1];.;.;.;.;|||#1", api.Gauge{Free: 4}},
	})
}

// TestCollectExtras: extras are handed out in the order of the blocks, whoever had them.
func TestCollectExtras(t *testing.T) {
	of := func(over int) api.Config { return conf(6, 6, 2, 9, over) }
	late := lateFirst
	both := "w0[#2,#2,#2,#2];w0[#2,#2,#2,#2];w0[#1,#1,#1,#1];w0[#1,#1,#1,#1];||#3,#4,#5,#6|#1,#2"
	shows(t, []sight{
		{of(1), late, "s[];h8[];" + both, api.Gauge{Waiting: 4, Extras: 1, Stuck: 1}},
		{of(1), late + "collect 0", "h8[];s[];" + both, api.Gauge{Waiting: 4, Extras: 1, Stuck: 1}},
		{of(1), late + "collect 0, collect 0", "h8[];s[];" + both, api.Gauge{Waiting: 4, Extras: 1, Stuck: 1}},
		{of(0), late + "collect 0", "s[];s[];" + both, api.Gauge{Waiting: 4, Stuck: 2}},
		{of(2), late + "collect 0", "h8[];h8[];" + both, api.Gauge{Waiting: 4, Extras: 2}},
		{of(9), late + "collect 0", "h8[];h8[];" + both, api.Gauge{Waiting: 4, Extras: 2}},
		// The one that has the extra now gives it back; the other stays stuck until the next collection.
		{of(1), late + "collect 0, dup 0, nil, store 0", "h7[];s[];w0[#2,#2,#2,#2];w0[#2,#2,#2,#2];w0[#1,#1,#1,#1];w0[n,#1,#1,#1];||#3,#4,#5,#6|#1,#2", api.Gauge{Waiting: 4, Stuck: 1}},
		{of(1), late + "collect 0, dup 0, nil, store 0, collect 0", "h7[];h8[];w0[#2,#2,#2,#2];w0[#2,#2,#2,#2];w0[#1,#1,#1,#1];w0[n,#1,#1,#1];||#3,#4,#5,#6|#1,#2", api.Gauge{Waiting: 4, Extras: 1}},
		// The stuck one needs no extra any more, so the other keeps its own.
		{of(1), late + "drop, collect 1", "h4[];h8[];w0[#2,#2,#2,#2];w0[#2,#2,#2,#2];w0[#1,#1,#1,#1];.;||#3,#4,#5|#1,#2", api.Gauge{Free: 1, Waiting: 3, Extras: 1}},
		// An extra goes with its object, or with those that held it.
		{of(1), "new 0, set 0, " + hold(4, 0) + hold(4, 0) + "drop, drop, nil, set 0, collect 3", ".;.;.;.;.;.;|||n,n", api.Gauge{Free: 6}},
		{of(1), "new 0, set 0, " + hold(4, 0) + hold(4, 0) + "drop, collect 1", "h4[];w0[#1,#1,#1,#1];.;.;.;.;||#2|#1,n", api.Gauge{Free: 4, Waiting: 1}},
		{of(1), "new 0, set 0, " + hold(4, 0) + hold(4, 0) + hold(1, 0) + "drop, collect 1", "h8[];w0[#1,#1,#1,#1];w0[#1,#1,#1,#1];.;.;.;||#2,#3|#1,n", api.Gauge{Free: 3, Waiting: 2, Extras: 1}},
	})
}

// lateFirst: of objects 1 and 2, both with the count 8, the second had need of an extra first.
var lateFirst = "new 0, set 0, new 0, set 1, " + hold(4, 1) + hold(4, 1) + hold(4, 0) + hold(4, 0)

// holdMore: three more fields hold the object of global g, which leads to their object by its field 0.
func holdMore(g int) string {
	return strings.ReplaceAll("new 4, dup 0, get G, store 0, dup 0, get G, store 1, dup 0, get G, store 2, dup 0, get G, load 0, store 3, get G, dup 1, store 0, drop, ", "G", strconv.Itoa(g))
}

// TestCollectHandsOutOver: eight objects with a count above MaxCount, then fewer and fewer, at every Over.
func TestCollectHandsOutOver(t *testing.T) {
	for over := 0; over <= api.MaxOver; over++ {
		for gone := 0; gone <= 8; gone++ {
			h := newHeap(t, conf(32, 4, 8, 99, over))
			for g := 0; g < 8; g++ {
				play(t, h, "new 1, set "+strconv.Itoa(g))
			}
			for g := 7; g >= 0; g-- {
				play(t, h, holdMore(g)+holdMore(g)+holdMore(g))
			}
			for g := 0; g < gone; g++ {
				play(t, h, "nil, set "+strconv.Itoa(g))
			}
			play(t, h, "collect "+strconv.Itoa(4*gone)+", collect 0")
			left := 8 - gone
			want := api.Gauge{Free: 4 * gone, Extras: min(over, left), Stuck: max(0, left-over)}
			if gauge := h.Gauge(); gauge != want {
				t.Errorf("Over %d, %d gone: Gauge %+v, want %+v", over, gone, gauge, want)
			}
			for g, record := range strings.Split(h.Dump(), ";")[:8] {
				begin := "."
				if g >= gone+over {
					begin = "s["
				} else if g >= gone {
					begin = "h9["
				}
				if !strings.HasPrefix(record, begin) {
					t.Errorf("Over %d, %d gone: block %d is %q, want %q", over, gone, g+1, record, begin)
				}
			}
		}
	}
}

// TestCollectAll: a heap with objects in the queue, waiting, with an extra, stuck and in a ring.
func TestCollectAll(t *testing.T) {
	c := conf(13, 5, 2, 8, 1)
	ahead := "new 0, drop, new 0, drop, safe 1, " + // Block 2 is in the queue, block 1 is free.
		"new 0, set 0, new 0, set 1, " + // Blocks 1 and 3.
		hold(4, 0) + hold(4, 0) + "drop, " + // Block 1 has the extra; block 4 is on the stack, block 5 goes.
		hold(4, 1) + hold(4, 1) + "drop, drop, " + // Block 3 is stuck; blocks 6 and 7 go.
		linked + "drop, drop, " + ring + "new 1" // Blocks 8, 9 and 10 are in rings, block 11 is on the stack.
	four := func(b string) string { return "[" + b + "," + b + "," + b + "," + b + "];" }
	shows(t, []sight{
		{c, ahead, "h8[];q0[];s[];w0" + four("#1") + "w0" + four("#1") + "w0" + four("#3") + "w0" + four("#3") + "h1[#9];h1[#8];h1[#10];w0[n];.;.;|2|#4,#11|#1,#3", api.Gauge{Free: 2, Waiting: 5, Queued: 1, Extras: 1, Stuck: 1}},
		{c, ahead + ", collect 7", "h4[];.;w0[];w0" + four("#1") + ".;.;.;.;.;.;w0[n];.;.;||#4,#11|#1,#3", api.Gauge{Free: 9, Waiting: 3}},
		{c, ahead + ", collect 7, safe 0, collect 0", "h4[];.;w0[];w0" + four("#1") + ".;.;.;.;.;.;w0[n];.;.;||#4,#11|#1,#3", api.Gauge{Free: 9, Waiting: 3}},
	})
}

// TestCollectFarAndWide: one chain and one ring of all blocks, and each block alone.
func TestCollectFarAndWide(t *testing.T) {
	link := "new 1, dup 0, get 0, store 0, set 0, "
	for _, blocks := range []int{1, 2, 3, 50, 98, 99} {
		n := strconv.Itoa(blocks)
		chain := "new 1, dup 0, set 0, set 1, " + strings.Repeat(link, blocks-1)
		closed := chain + "get 1, get 0, store 0, "
		for _, text := range []string{
			strings.Repeat("new 0, drop, ", blocks) + "collect " + n,
			chain + "collect 0, nil, set 1, collect 0, nil, set 0, collect " + n,
			closed + "collect 0, nil, set 0, collect 0, nil, set 1, safe 0, collect " + n,
			closed + "nil, set 1, get 0, nil, set 0, collect 0, drop, collect " + n,
		} {
			h := newHeap(t, conf(blocks, 3, 2, 99, 0))
			play(t, h, text)
			if gauge := h.Gauge(); gauge != (api.Gauge{Free: blocks}) {
				t.Errorf("%d blocks, %q: Gauge %+v", blocks, text, gauge)
			}
		}
	}
}

// TestCollectBehindWrongInputs: refusals between Collects change nothing of what these answer.
func TestCollectBehindWrongInputs(t *testing.T) {
	h := newHeap(t, conf(9, 2, 1, 4, 0))
	wrong := func() {
		for _, op := range []int{-1, 13, opSafe, opCollect, minInt, maxInt} {
			dump := h.Dump()
			if n, e := h.Do(op, 0); n != 0 || e != api.ErrOp || h.Dump() != dump {
				t.Errorf("Do(%d, 0) = %d, error %d: Dump %q became %q", op, n, e, dump, h.Dump())
			}
		}
		for _, text := range []string{"drop", "store 0", "load 0", "same", "take", "size", "kind", "set 0"} {
			refuse(t, h, text, api.ErrEmpty)
		}
		for _, text := range []string{"new 5", "new -1", "dup 0", "get 1", "set -1"} {
			refuse(t, h, text, api.ErrIndex)
		}
	}
	play(t, h, strings.Repeat("new 1, set 0, get 0, get 0, store 0, ", 6))
	for _, due := range []int{5, 0} {
		wrong()
		play(t, h, "collect "+strconv.Itoa(due))
	}
	play(t, h, "nil, set 0")
	for _, due := range []int{1, 0} {
		wrong()
		play(t, h, "collect "+strconv.Itoa(due))
	}
	wrong()
	if dump := h.Dump(); dump != strings.Repeat(".;", 9)+"|||n" {
		t.Errorf("Dump %q", dump)
	}
}
