package reclaim_test

import (
	"strconv"
	"strings"
	"testing"

	"reclaim/api"
)

// budget: the configuration with another Budget.
func budget(n int, c api.Config) api.Config {
	c.Budget = n
	return c
}

func TestSafepointExamples(t *testing.T) {
	chain := "new 1, new 0, store 0"
	shows(t, []sight{
		{example, "safe 0", ".;.;.;|||n", api.Gauge{Free: 3}},
		{example, chain + ", safe 1", ".;q0[];.;|2||n", api.Gauge{Free: 2, Queued: 1}},
		{example, chain + ", safe 1, safe 1", ".;.;.;|||n", api.Gauge{Free: 3}},
		{example, chain + ", safe 1, safe 1, safe 0", ".;.;.;|||n", api.Gauge{Free: 3}},
		{example, "new 1, set 0, new 0, drop, safe 1", "w0[n];.;.;|||#1", api.Gauge{Free: 2, Waiting: 1}},
		{example, "new 1, dup 0, dup 0, store 0, drop, safe 0", "h1[#1];.;.;|||n", api.Gauge{Free: 2}},
	})
}

// TestSafepointBudget: queues shorter than Budget, as long, and longer.
func TestSafepointBudget(t *testing.T) {
	for n := 0; n <= 7; n++ {
		for _, b := range []int{1, 2, 3, 6, 7, 8, 99} {
			h := newHeap(t, budget(b, conf(7, 1, 0, 99, 0)))
			play(t, h, strings.Repeat("new 0, drop, ", n))
			for gone := 0; gone <= n; {
				due := min(b, n-gone)
				if freed := h.Safepoint(); freed != due {
					t.Fatalf("Budget %d, %d of %d objects gone: Safepoint %d, want %d", b, gone, n, freed, due)
				}
				gone += due
				want := strings.Repeat(".;", gone) + strings.Repeat("q0[];", n-gone) + strings.Repeat(".;", 7-n) + "|" + numbers(gone+1, n) + "||"
				if dump := h.Dump(); dump != want {
					t.Fatalf("Budget %d, %d of %d objects gone: Dump %q, want %q", b, gone, n, dump, want)
				}
				if gauge := h.Gauge(); gauge != (api.Gauge{Free: 7 - n + gone, Queued: n - gone}) {
					t.Fatalf("Budget %d, %d of %d objects gone: Gauge %+v", b, gone, n, gauge)
				}
				if due == 0 {
					break
				}
			}
		}
	}
}

// numbers: those from first to last, with commas between.
func numbers(first, last int) string {
	var all []string
	for i := first; i <= last; i++ {
		all = append(all, strconv.Itoa(i))
	}
	return strings.Join(all, ",")
}

// TestSafepointSorts: all that waits without a root, behind what is in the queue, in the order of the blocks.
func TestSafepointSorts(t *testing.T) {
	c := conf(5, 3, 1, 5, 0)
	three := "new 0, drop, new 0, drop, new 0, drop, safe 1, "
	shows(t, []sight{
		{c, three, ".;q0[];q0[];.;.;|2,3||n", api.Gauge{Free: 3, Queued: 2}},
		{c, three + "new 0, drop, safe 1", "q0[];.;q0[];.;.;|3,1||n", api.Gauge{Free: 3, Queued: 2}},
		{c, three + "new 0, drop, new 0, drop, safe 1", "q0[];.;q0[];q0[];.;|3,1,4||n", api.Gauge{Free: 2, Queued: 3}},
		{c, three + "new 0, safe 1", "w0[];.;q0[];.;.;|3|#1|n", api.Gauge{Free: 3, Waiting: 1, Queued: 1}},
		{c, three + "new 0, set 0, safe 1", "w0[];.;q0[];.;.;|3||#1", api.Gauge{Free: 3, Waiting: 1, Queued: 1}},
		// What began to wait last has the least number.
		{c, "new 0, new 0, set 0, new 0, set 0, drop, safe 1", ".;q0[];w0[];.;.;|2||#3", api.Gauge{Free: 3, Waiting: 1, Queued: 1}},
		// Numbers that are blocks' are no roots.
		{budget(9, c), "new 0, drop, new 0, drop, int 1, int 2, set 0, safe 2", ".;.;.;.;.;||1|2", api.Gauge{Free: 5}},
		// Roots anywhere on the stack.
		{budget(9, c), "new 0, new 0, new 0, safe 0, drop, safe 1", "w0[];w0[];.;.;.;||#1,#2|n", api.Gauge{Free: 3, Waiting: 2}},
	})
}

// TestFreeFields: what the fields of a freed object held, from field 0 on.
func TestFreeFields(t *testing.T) {
	c := conf(6, 4, 2, 7, 0)
	two := "new 2, dup 0, new 0, store 0, dup 0, new 0, store 1, drop"
	shows(t, []sight{
		{c, "new 4, drop, safe 1", ".;.;.;.;.;.;|||n,n", api.Gauge{Free: 6}},
		{c, "new 2, dup 0, int 1, store 0, int 2, store 1, new 0, set 0, safe 1", ".;w0[];.;.;.;.;|||#2,n", api.Gauge{Free: 5, Waiting: 1}},
		{c, two + ", safe 1", ".;q0[];q0[];.;.;.;|2,3||n,n", api.Gauge{Free: 4, Queued: 2}},
		{c, "new 2, dup 0, new 0, store 1, dup 0, new 0, store 0, drop, safe 1", ".;q0[];q0[];.;.;.;|3,2||n,n", api.Gauge{Free: 4, Queued: 2}},
		{c, "new 4, dup 0, new 0, store 3, dup 0, new 0, store 1, dup 0, int 2, store 0, drop, safe 1", ".;q0[];q0[];.;.;.;|3,2||n,n", api.Gauge{Free: 4, Queued: 2}},
		// Behind those that the sorting brought.
		{c, two + ", new 0, drop, safe 1", ".;q0[];q0[];q0[];.;.;|4,2,3||n,n", api.Gauge{Free: 3, Queued: 3}},
		{budget(2, c), two + ", new 0, drop, safe 2", ".;q0[];q0[];.;.;.;|2,3||n,n", api.Gauge{Free: 4, Queued: 2}},
		// An object that another field holds still.
		{c, "new 0, set 0, new 1, dup 0, get 0, store 0, set 1, new 1, get 0, store 0, nil, set 0, safe 1", "h1[];w0[#1];.;.;.;.;|||n,#2", api.Gauge{Free: 4, Waiting: 1}},
		// A ring that was held from outside.
		{c, "new 1, dup 0, dup 0, store 0, set 0, new 1, get 0, store 0, nil, set 0, safe 1, safe 0", "h1[#1];.;.;.;.;.;|||n,n", api.Gauge{Free: 5}},
		// The block's next object has fields of its own.
		{c, two + ", safe 1, new 3", "w0[n,n,n];q0[];q0[];.;.;.;|2,3|#1|n,n", api.Gauge{Free: 3, Waiting: 1, Queued: 2}},
		{c, two + ", safe 1, new 0, safe 1, new 1", "w0[];w0[n];q0[];.;.;.;|3|#1,#2|n,n", api.Gauge{Free: 3, Waiting: 2, Queued: 1}},
	})
}

// TestFreeFieldsOfOneObject: several fields are references to the same object.
func TestFreeFieldsOfOneObject(t *testing.T) {
	c := conf(5, 4, 1, 6, 0)
	fill := func(fields string) string {
		s := "new 0, set 0, new 4, "
		for _, f := range strings.Fields(fields) {
			s += "dup 0, get 0, store " + f + ", "
		}
		return s
	}
	shows(t, []sight{
		{c, fill("0 1") + "drop, nil, set 0, safe 1", "q0[];.;.;.;.;|1||n", api.Gauge{Free: 4, Queued: 1}},
		{c, fill("0 3") + "drop, nil, set 0, safe 1, safe 1", ".;.;.;.;.;|||n", api.Gauge{Free: 5}},
		{c, fill("0 1 2 3") + "drop, nil, set 0, safe 1", "q0[];.;.;.;.;|1||n", api.Gauge{Free: 4, Queued: 1}},
		{c, fill("0 1 2 3") + "drop, safe 1", "w0[];.;.;.;.;|||#1", api.Gauge{Free: 4, Waiting: 1}},
		{budget(9, c), fill("0 1 2 3") + "drop, nil, set 0, safe 2", ".;.;.;.;.;|||n", api.Gauge{Free: 5}},
		// The object comes to the count 0 behind the last such field, and so behind what lies between.
		{c, fill("0 2") + "new 0, store 1, nil, set 0, safe 1", "q0[];.;q0[];.;.;|3,1||n", api.Gauge{Free: 3, Queued: 2}},
		{c, fill("0 1") + "new 0, store 2, nil, set 0, safe 1", "q0[];.;q0[];.;.;|1,3||n", api.Gauge{Free: 3, Queued: 2}},
		// Another object holds it too.
		{c, fill("0 1") + "new 1, dup 0, get 0, store 0, nil, set 0, set 0, drop, safe 1", "h1[];.;w0[#1];.;.;|||#3", api.Gauge{Free: 3, Waiting: 1}},
	})
}

// TestFreeFieldOfRoot: an object that a root has waits, and is freed once no root has it.
func TestFreeFieldOfRoot(t *testing.T) {
	global := "new 0, set 0, new 1, get 0, store 0, "
	onStack := "new 0, new 1, dup 1, store 0, "
	shows(t, []sight{
		{example, global + "safe 1", "w0[];.;.;|||#1", api.Gauge{Free: 2, Waiting: 1}},
		{example, global + "safe 1, safe 0", "w0[];.;.;|||#1", api.Gauge{Free: 2, Waiting: 1}},
		{example, global + "safe 1, nil, set 0, safe 1", ".;.;.;|||n", api.Gauge{Free: 3}},
		{example, global + "nil, set 0, safe 1", "q0[];.;.;|1||n", api.Gauge{Free: 2, Queued: 1}},
		{budget(9, example), global + "safe 1", "w0[];.;.;|||#1", api.Gauge{Free: 2, Waiting: 1}},
		{example, onStack + "safe 1", "w0[];.;.;||#1|n", api.Gauge{Free: 2, Waiting: 1}},
		{example, onStack + "nil, int 1, safe 1", "w0[];.;.;||#1,n,1|n", api.Gauge{Free: 2, Waiting: 1}},
		{example, onStack + "safe 1, drop, safe 1", ".;.;.;|||n", api.Gauge{Free: 3}},
		{example, onStack + "drop, int 1, safe 1", "q0[];.;.;|1|1|n", api.Gauge{Free: 2, Queued: 1}},
		// What is held by an object that a root has is none of the roots' own, but is held.
		{example, "new 0, new 1, dup 0, dup 2, store 0, set 0, new 1, dup 1, store 0, drop, safe 1", "h1[];w0[#1];.;|||#2", api.Gauge{Free: 1, Waiting: 1}},
	})
}

// TestFreeFieldOfStuck: a stuck object stays so, whether a root has it or not.
func TestFreeFieldOfStuck(t *testing.T) {
	c := budget(9, conf(4, 4, 1, 6, 0))
	stuck := "new 0, set 0, " + hold(4, 0) + hold(4, 0)
	shows(t, []sight{
		{c, stuck + "drop, safe 1", "s[];w0[#1,#1,#1,#1];.;.;||#2|#1", api.Gauge{Free: 2, Waiting: 1, Stuck: 1}},
		{c, stuck + "drop, drop, safe 2", "s[];.;.;.;|||#1", api.Gauge{Free: 3, Stuck: 1}},
		{c, stuck + "drop, drop, safe 2, nil, set 0, safe 0", "s[];.;.;.;|||n", api.Gauge{Free: 3, Stuck: 1}},
		{c, stuck + "drop, drop, nil, set 0, safe 2, safe 0", "s[];.;.;.;|||n", api.Gauge{Free: 3, Stuck: 1}},
		{c, stuck + "drop, drop, safe 2, " + hold(4, 0) + hold(4, 0) + "drop, drop, safe 2", "s[];.;.;.;|||#1", api.Gauge{Free: 3, Stuck: 1}},
		// What a stuck object holds stays held.
		{c, "new 1, dup 0, new 0, store 0, set 0, " + hold(4, 0) + "drop, " + hold(4, 0) + "drop, nil, set 0, safe 2", "s[#2];h1[];.;.;|||n", api.Gauge{Free: 2, Stuck: 1}},
	})
}

// TestFreeFieldOfExtra: an object with an extra gives it back when its count comes down to MaxCount.
func TestFreeFieldOfExtra(t *testing.T) {
	c := conf(6, 5, 2, 8, 1)
	eight := "new 0, set 0, " + hold(4, 0) + hold(4, 0)
	shows(t, []sight{
		{c, eight + hold(1, 0) + "drop, safe 1", "h8[];w0[#1,#1,#1,#1];w0[#1,#1,#1,#1];.;.;.;||#2,#3|#1,n", api.Gauge{Free: 3, Waiting: 2, Extras: 1}},
		{c, "new 0, set 0, " + hold(4, 0) + hold(3, 0) + hold(1, 0) + "drop, safe 1", "h7[];w0[#1,#1,#1,#1];w0[#1,#1,#1,n];.;.;.;||#2,#3|#1,n", api.Gauge{Free: 3, Waiting: 2}},
		{c, eight + "drop, safe 1", "h4[];w0[#1,#1,#1,#1];.;.;.;.;||#2|#1,n", api.Gauge{Free: 4, Waiting: 1}},
		{c, eight + "drop, drop, safe 1, safe 1", "w0[];.;.;.;.;.;|||#1,n", api.Gauge{Free: 5, Waiting: 1}},
		{c, eight + "drop, drop, nil, set 0, safe 1, safe 1", "q0[];.;.;.;.;.;|1||n,n", api.Gauge{Free: 5, Queued: 1}},
		{budget(3, c), eight + "drop, drop, nil, set 0, safe 3", ".;.;.;.;.;.;|||n,n", api.Gauge{Free: 6}},
	})
	// Object 1 has the extra, object 4 the count 7; then object 1 gives its extra back.
	two := eight + "drop, drop, new 0, set 1, " + hold(4, 1) + hold(3, 1)
	shows(t, []sight{
		{c, two + "dup 0, get 1, store 3", "h8[];w0[#1,#1,#1,#1];w0[#1,#1,#1,#1];s[];w0[#4,#4,#4,#4];w0[#4,#4,#4,#4];||#5,#6|#1,#4", api.Gauge{Waiting: 4, Extras: 1, Stuck: 1}},
		{c, two + "safe 1, dup 0, get 1, store 3", "h4[];.;q0[#1,#1,#1,#1];h8[];w0[#4,#4,#4,#4];w0[#4,#4,#4,#4];|3|#5,#6|#1,#4", api.Gauge{Free: 1, Waiting: 2, Queued: 1, Extras: 1}},
	})
}

// TestNewFreesFirst: OpNew of a heap with no free block and a queue that is not empty (P5).
func TestNewFreesFirst(t *testing.T) {
	c := conf(4, 3, 0, 4, 0)
	// Block 2 is the first of the queue and holds block 3.
	full := "new 0, drop, new 1, new 0, store 0, new 0, safe 1, new 0, "
	shows(t, []sight{
		{c, full, "w0[];q0[#3];h1[];w0[];|2|#4,#1|", api.Gauge{Waiting: 2, Queued: 1}},
		{c, full + "new 3", "w0[];w0[n,n,n];q0[];w0[];|3|#4,#1,#2|", api.Gauge{Waiting: 3, Queued: 1}},
		{c, full + "new 3, drop, new 0", "w0[];w0[n,n,n];w0[];w0[];||#4,#1,#3|", api.Gauge{Waiting: 4}},
		// The first alone, and no sorting for it.
		{conf(5, 1, 0, 3, 0), "new 0, drop, new 0, drop, new 0, drop, new 0, drop, new 0, drop, new 4", "w0[n,n,n,n];q0[];q0[];w0[];w0[];|2,3|#1|", api.Gauge{Waiting: 3, Queued: 2}},
		{budget(99, conf(5, 1, 0, 3, 0)), "new 0, drop, new 0, drop, new 0, drop, new 0, drop, new 0, drop, new 4", "w0[n,n,n,n];q0[];q0[];w0[];w0[];|2,3|#1|", api.Gauge{Waiting: 3, Queued: 2}},
		// The new object has no room to wait.
		{conf(4, 1, 0, 2, 0), "new 0, drop, new 0, drop, new 0, drop, new 0, drop, new 1", "w0[n];q0[];q0[];q0[];|2,3,4|#1|", api.Gauge{Waiting: 1, Queued: 3}},
		// A free block is taken ahead of the queue.
		{example, "new 0, drop, new 0, drop, safe 1, new 0", "w0[];q0[];.;|2|#1|n", api.Gauge{Free: 1, Waiting: 1, Queued: 1}},
	})
}

// TestNewFreesFirstAndSorts: block 3, the first of the queue, holds block 1, which global 0 has, and block 4.
func TestNewFreesFirstAndSorts(t *testing.T) {
	full := func(waiting int, holder string) string {
		return "new 0, set 0, new 0, drop, new 2, " + holder + "safe 1, " + strings.Repeat("new 0, drop, ", waiting)
	}
	both := "dup 0, get 0, store 0, new 0, store 1, "
	turned := "dup 0, get 0, store 1, new 0, store 0, "
	alone := "new 0, store 0, "
	shows(t, []sight{
		{conf(8, 3, 1, 5, 0), full(5, both), "h1[];w0[];q0[#1,#4];h1[];w0[];w0[];w0[];w0[];|3||#1", api.Gauge{Waiting: 5, Queued: 1}},
		{conf(8, 3, 1, 5, 0), full(5, both) + "new 0", "w0[];q0[];w0[];q0[];q0[];q0[];q0[];q0[];|2,5,6,7,8,4|#3|#1", api.Gauge{Waiting: 2, Queued: 6}},
		{conf(8, 3, 1, 5, 0), full(5, turned) + "new 0", "w0[];q0[];w0[];q0[];q0[];q0[];q0[];q0[];|4,2,5,6,7,8|#3|#1", api.Gauge{Waiting: 2, Queued: 6}},
		// What no root has goes to the queue without a sorting; the new object brings one.
		{conf(7, 3, 1, 5, 0), full(4, alone) + "new 0", "w0[];q0[];w0[];q0[];q0[];q0[];q0[];|4,2,5,6,7|#3|#1", api.Gauge{Waiting: 2, Queued: 5}},
		// There is room for block 1, and then none for the new object.
		{conf(7, 3, 1, 5, 0), full(4, both) + "new 0", "w0[];q0[];w0[];q0[];q0[];q0[];q0[];|4,2,5,6,7|#3|#1", api.Gauge{Waiting: 2, Queued: 5}},
		// There is room for both.
		{conf(6, 3, 1, 5, 0), full(3, both) + "new 0", "w0[];w0[];w0[];q0[];w0[];w0[];|4|#3|#1", api.Gauge{Waiting: 5, Queued: 1}},
	})
}

// TestNewFreesNothingIfRefused: the errors ahead of ErrFull leave the queue alone.
func TestNewFreesNothingIfRefused(t *testing.T) {
	h := newHeap(t, conf(4, 3, 0, 4, 0))
	play(t, h, "new 0, drop, new 1, new 0, store 0, new 0, safe 1, new 0")
	if g := h.Gauge(); g.Free != 0 || g.Queued != 1 {
		t.Fatalf("Gauge %+v", g)
	}
	for _, text := range []string{"new -1", "new 5", "new 9223372036854775807", "new -9223372036854775808"} {
		refuse(t, h, text, api.ErrIndex)
	}
	play(t, h, "nil")
	refuse(t, h, "new 5", api.ErrIndex)
	refuse(t, h, "new 0", api.ErrDeep)
	refuse(t, h, "new 4", api.ErrDeep)
	play(t, h, "safe 1, safe 1, safe 0")
}

// TestSafepointBehindWrongInputs: refusals between Safepoints change nothing of what these answer.
func TestSafepointBehindWrongInputs(t *testing.T) {
	h := newHeap(t, budget(2, conf(9, 4, 1, 6, 0)))
	play(t, h, "new 0, set 0, "+strings.Repeat("new 1, get 0, store 0, ", 5)+"nil, set 0")
	wrong := func() {
		for _, op := range []int{-1, 13, opSafe, minInt, maxInt} {
			dump := h.Dump()
			if n, e := h.Do(op, 0); n != 0 || e != api.ErrOp || h.Dump() != dump {
				t.Errorf("Do(%d, 0) = %d, error %d: Dump %q became %q", op, n, e, dump, h.Dump())
			}
		}
		for _, text := range []string{"drop", "store 0", "load 0", "same", "take", "size", "kind", "set 0"} {
			refuse(t, h, text, api.ErrEmpty)
		}
		for _, text := range []string{"new 5", "dup 0", "get 1", "set -1"} {
			refuse(t, h, text, api.ErrIndex)
		}
	}
	for _, due := range []int{2, 2, 2, 0} {
		wrong()
		play(t, h, "safe "+strconv.Itoa(due))
	}
	wrong()
	if dump := h.Dump(); dump != strings.Repeat(".;", 9)+"|||n" {
		t.Errorf("Dump %q", dump)
	}
}

// TestSafepointFreesAsManyAsBudget: what has no ring goes Budget by Budget, however it hangs together (P12).
func TestSafepointFreesAsManyAsBudget(t *testing.T) {
	for _, shape := range []string{
		"new 1, dup 0, get 0, store 0, set 0",                        // a chain
		"new 2, dup 0, get 0, store 0, dup 0, get 0, store 1, set 0", // a chain of pairs
		"new 1, drop", // each alone
		"new 4, dup 0, get 0, store 3, dup 0, new 0, store 0, dup 0, new 1, store 2, set 0",                 // a comb
		"new 4, dup 0, get 0, store 0, dup 0, get 1, store 1, dup 0, get 1, store 2, get 0, set 1, set 0",   // each holds the two ahead
		"new 4, dup 0, new 1, store 0, dup 0, load 0, get 0, store 0, dup 0, dup 0, load 0, store 3, set 0", // held by two levels
	} {
		for _, b := range []int{1, 2, 3, 7, 29, 30, 31, 99} {
			h := newHeap(t, budget(b, conf(99, 4, 2, 99, 9)))
			for h.Gauge().Free > 69 {
				play(t, h, shape)
			}
			play(t, h, "nil, set 0, nil, set 1")
			if g := h.Gauge(); g.Stuck != 0 {
				t.Fatalf("%q: Gauge %+v", shape, g)
			}
			left := 99 - h.Gauge().Free
			for left > 0 {
				due := min(b, left)
				if freed := h.Safepoint(); freed != due {
					t.Fatalf("%q, Budget %d, %d left: Safepoint %d", shape, b, left, freed)
				}
				left -= due
			}
			play(t, h, "safe 0")
			if g := h.Gauge(); g != (api.Gauge{Free: 99}) {
				t.Errorf("%q, Budget %d: Gauge %+v", shape, b, g)
			}
		}
	}
}

// TestSafepointKeepsWhatIsReachable: neither queue nor freeing comes near it (P12).
func TestSafepointKeepsWhatIsReachable(t *testing.T) {
	for _, text := range []string{
		"new 0", "new 0, set 0", "new 0, new 0, new 0, new 0",
		"new 1, dup 0, new 1, store 0", "new 1, dup 0, new 1, store 0, set 0",
		"new 1, dup 0, new 1, store 0, load 0, dup 0, new 1, store 0, set 0, get 0, load 0",
		"new 1, dup 0, dup 0, store 0", "new 1, dup 0, dup 0, store 0, set 0",
		"new 1, set 0, new 1, dup 0, get 0, store 0, get 0, dup 1, store 0, nil, set 0",
		"new 4, set 0, get 0, new 1, store 0, get 0, new 2, store 3, get 0, load 3, get 0, load 0, store 1",
		"new 0, set 0, " + hold(4, 0) + hold(4, 0),
	} {
		for _, b := range []int{1, 99} {
			h := newHeap(t, budget(b, conf(5, 4, 1, 6, 0)))
			play(t, h, text)
			reachable := keptBy(text)
			for i := 0; i < 20; i++ {
				h.Safepoint()
			}
			if free := h.Gauge().Free; free != 5-reachable {
				t.Errorf("%q, Budget %d: %d free, want %d", text, b, free, 5-reachable)
			}
			dump := h.Dump()
			play(t, h, "safe 0")
			if h.Dump() != dump {
				t.Errorf("%q, Budget %d: Dump %q became %q", text, b, dump, h.Dump())
			}
		}
	}
}

// keptBy is how many objects the roots lead to behind these operations.
func keptBy(text string) int {
	m := newModel(conf(5, 4, 1, 6, 0))
	playModel(m, text)
	return len(m.reachable())
}
