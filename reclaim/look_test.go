package reclaim_test

import (
	"strings"
	"testing"

	"reclaim/api"
)

// conf: a configuration for tests to which the budget is all one.
func conf(blocks, stack, globals, zero, over int) api.Config {
	return api.Config{Blocks: blocks, Stack: stack, Globals: globals, Budget: 1, Zero: zero, Over: over}
}

// sight is what is seen of a fresh heap of this configuration behind operations that are all OK.
type sight struct {
	config api.Config
	text   string
	dump   string
	gauge  api.Gauge
}

func shows(t *testing.T, sights []sight) {
	t.Helper()
	for _, s := range sights {
		h := newHeap(t, s.config)
		play(t, h, s.text)
		if dump := h.Dump(); dump != s.dump {
			t.Errorf("%+v, %q: Dump\n%s, want\n%s", s.config, s.text, dump, s.dump)
		}
		if gauge := h.Gauge(); gauge != s.gauge {
			t.Errorf("%+v, %q: Gauge %+v, want %+v", s.config, s.text, gauge, s.gauge)
		}
	}
}

// TestLookFresh: P3, as P7 and P8 show it.
func TestLookFresh(t *testing.T) {
	shows(t, []sight{
		{example, "", ".;.;.;|||n", api.Gauge{Free: 3}},
		{conf(1, 1, 0, 2, 0), "", ".;|||", api.Gauge{Free: 1}},
		{conf(1, 1, 8, 10, 0), "", ".;|||n,n,n,n,n,n,n,n", api.Gauge{Free: 1}},
		{conf(99, 16, 2, 99, 9), "", strings.Repeat(".;", 99) + "|||n,n", api.Gauge{Free: 99}},
	})
}

func TestLookExamples(t *testing.T) {
	shows(t, []sight{
		{example, "int -5, new 2", "w0[n,n];.;.;||-5,#1|n", api.Gauge{Free: 2, Waiting: 1}},
		{example, "new 1, new 0, store 0", "w0[#2];h1[];.;|||n", api.Gauge{Free: 1, Waiting: 1}},
		{example, "new 1, set 0, new 0, drop", "w0[n];w0[];.;|||#1", api.Gauge{Free: 1, Waiting: 2}},
		{example, "new 1, dup 0, dup 0, store 0, drop", "h1[#1];.;.;|||n", api.Gauge{Free: 2}},
		{example, "new 0, new 0, new 0", "w0[];w0[];w0[];||#1,#2,#3|n", api.Gauge{Waiting: 3}},
		{example, "nil, nil, nil, nil", ".;.;.;||n,n,n,n|n", api.Gauge{Free: 3}},
	})
}

func TestDumpValues(t *testing.T) {
	shows(t, []sight{
		{example, "int 9223372036854775807, int -9223372036854775808, int 0, nil", ".;.;.;||9223372036854775807,-9223372036854775808,0,n|n", api.Gauge{Free: 3}},
		{example, "int 9223372036854775807, set 0", ".;.;.;|||9223372036854775807", api.Gauge{Free: 3}},
		{example, "int -9223372036854775808, set 0", ".;.;.;|||-9223372036854775808", api.Gauge{Free: 3}},
		{example, "new 4, dup 0, int 9223372036854775807, store 0, dup 0, int -9223372036854775808, store 1, dup 0, int -1, store 3", "w0[9223372036854775807,-9223372036854775808,n,-1];.;.;||#1|n", api.Gauge{Free: 2, Waiting: 1}},
		{example, "new 3, dup 0, int 1, store 0, dup 0, dup 0, store 2", "h1[1,n,#1];.;.;||#1|n", api.Gauge{Free: 2}},
		{conf(2, 2, 3, 6, 0), "new 0, set 1, int 1, set 2, nil, get 1", "w0[];.;||n,#1|n,#1,1", api.Gauge{Free: 1, Waiting: 1}},
		{conf(2, 2, 1, 4, 0), "int 1, int 2, same, int 3", ".;.;||3|n", api.Gauge{Free: 2}},
	})
}

// TestDumpTwoDigits: blocks above 9 on the stack, in globals, fields and the queue.
func TestDumpTwoDigits(t *testing.T) {
	nine := strings.Repeat("new 0, drop, ", 9)
	shows(t, []sight{
		{conf(12, 2, 1, 99, 0), nine + "new 1, set 0, get 0, new 0, store 0, get 0", strings.Repeat("w0[];", 9) + "w0[#11];h1[];.;||#10|#10", api.Gauge{Free: 1, Waiting: 10}},
		{conf(12, 1, 0, 11, 0), nine + "new 0, drop, new 0, drop, new 0", strings.Repeat("q0[];", 11) + "w0[];|1,2,3,4,5,6,7,8,9,10,11|#12|", api.Gauge{Waiting: 1, Queued: 11}},
	})
}

// TestLookBehindWrongInputs: refusals leave extras, stuck objects and the queue as they are.
func TestLookBehindWrongInputs(t *testing.T) {
	for _, over := range []int{0, 1} {
		h := newHeap(t, conf(9, 4, 1, 6, over))
		play(t, h, "new 0, set 0, "+hold(4, 0)+hold(4, 0)+"drop, drop, new 0, drop, new 0, drop, new 0, drop, new 1, drop, new 1")
		if h.Gauge().Queued == 0 || h.Gauge().Extras != over || h.Gauge().Stuck != 1-over {
			t.Fatalf("Gauge %+v", h.Gauge())
		}
		for _, text := range []string{"new 5", "new -1", "dup 1", "get 1", "set 1", "load 1"} {
			refuse(t, h, text, api.ErrIndex)
		}
		refuse(t, h, "store 0", api.ErrEmpty)
		refuse(t, h, "same", api.ErrEmpty)
		refuse(t, h, "take", api.ErrKind)
		play(t, h, "get 0")
		refuse(t, h, "store 1", api.ErrIndex)
		refuse(t, h, "store -1", api.ErrIndex)
		play(t, h, "nil, nil")
		for _, text := range []string{"nil", "int 1", "new 0", "dup 0", "get 0"} {
			refuse(t, h, text, api.ErrDeep)
		}
		refuse(t, h, "store 0", api.ErrNil)
		refuse(t, h, "load 0", api.ErrNil)
		refuse(t, h, "size", api.ErrNil)
	}
}
