package reclaim_test

import (
	"strconv"
	"strings"
	"testing"

	"reclaim/api"
)

// hold: a new object whose first n fields of four are references to the object in global g; it stays on the stack.
func hold(n, g int) string {
	s := "new 4, "
	for i := 0; i < n; i++ {
		s += "dup 0, get " + strconv.Itoa(g) + ", store " + strconv.Itoa(i) + ", "
	}
	return s
}

// wipe: the fields of the object that lies n below the top become nil.
func wipe(n int) string {
	s := ""
	for i := 0; i < api.MaxFields; i++ {
		s += "dup " + strconv.Itoa(n) + ", nil, store " + strconv.Itoa(i) + ", "
	}
	return s
}

func TestStoreCounts(t *testing.T) {
	one := "new 1, set 0, get 0, new 0, store 0"
	shows(t, []sight{
		{example, one, "w0[#2];h1[];.;|||#1", api.Gauge{Free: 1, Waiting: 1}},
		{example, one + ", get 0, nil, store 0", "w0[n];w0[];.;|||#1", api.Gauge{Free: 1, Waiting: 2}},
		{example, one + ", get 0, int 2, store 0", "w0[2];w0[];.;|||#1", api.Gauge{Free: 1, Waiting: 2}},
		{example, one + ", get 0, new 0, store 0", "w0[#3];w0[];h1[];|||#1", api.Gauge{Waiting: 2}},
		{example, one + ", get 0, get 0, store 0", "h1[#1];w0[];.;|||#1", api.Gauge{Free: 1, Waiting: 1}},
		// Roots do not count.
		{example, one + ", get 0, load 0, dup 0, dup 0", "w0[#2];h1[];.;||#2,#2,#2|#1", api.Gauge{Free: 1, Waiting: 1}},
		// A number that is a block's is no reference to it.
		{example, one + ", get 0, int 2, store 0, get 0, int 1, store 0", "w0[1];w0[];.;|||#1", api.Gauge{Free: 1, Waiting: 2}},
		{example, one + ", new 1, dup 0, int 2, store 0", "w0[#2];h1[];w0[2];||#3|#1", api.Gauge{Waiting: 2}},
		// Two fields of one object count twice; so do those of two objects.
		{example, "new 2, dup 0, new 0, store 0, dup 0, dup 0, load 0, store 1", "w0[#2,#2];h2[];.;||#1|n", api.Gauge{Free: 1, Waiting: 1}},
		{example, "new 0, set 0, new 1, dup 0, get 0, store 0, new 1, dup 0, get 0, store 0", "h2[];w0[#1];w0[#1];||#2,#3|#1", api.Gauge{Waiting: 2}},
		// The same reference again.
		{example, one + ", get 0, get 0, load 0, store 0", "w0[#2];h1[];.;|||#1", api.Gauge{Free: 1, Waiting: 1}},
	})
}

// TestStoreObjectInItself: an object's own fields count too.
func TestStoreObjectInItself(t *testing.T) {
	own := func(n int) string { return "dup 0, dup 0, store " + strconv.Itoa(n) + ", " }
	all := "new 4, " + own(0) + own(1) + own(2) + own(3)
	shows(t, []sight{
		{example, "new 1, " + own(0), "h1[#1];.;.;||#1|n", api.Gauge{Free: 2}},
		{example, "new 1, " + own(0) + own(0), "h1[#1];.;.;||#1|n", api.Gauge{Free: 2}},
		{example, "new 1, " + own(0) + "drop", "h1[#1];.;.;|||n", api.Gauge{Free: 2}},
		{example, "new 1, " + own(0) + "nil, store 0", "w0[n];.;.;|||n", api.Gauge{Free: 2, Waiting: 1}},
		{example, all, "h4[#1,#1,#1,#1];.;.;||#1|n", api.Gauge{Free: 2}},
		{example, all + wipe(0), "w0[n,n,n,n];.;.;||#1|n", api.Gauge{Free: 2, Waiting: 1}},
		{example, all + "set 0, " + hold(3, 0), "h7[#1,#1,#1,#1];w0[#1,#1,#1,n];.;||#2|#1", api.Gauge{Free: 1, Waiting: 1}},
		{example, all + "set 0, " + hold(4, 0), "s[#1,#1,#1,#1];w0[#1,#1,#1,#1];.;||#2|#1", api.Gauge{Free: 1, Waiting: 1, Stuck: 1}},
		{example, all + "set 0, " + hold(4, 0) + "get 0, " + wipe(0), "s[n,n,n,n];w0[#1,#1,#1,#1];.;||#2,#1|#1", api.Gauge{Free: 1, Waiting: 1, Stuck: 1}},
	})
}

// TestCountUpAndDown: with an extra at hand the count is told at every height.
func TestCountUpAndDown(t *testing.T) {
	for _, over := range []int{1, 9} {
		h := newHeap(t, conf(6, 7, 1, 9, over))
		play(t, h, "new 0, set 0, new 4, new 4, new 4, new 4")
		look := func(count int) {
			record := "h" + strconv.Itoa(count) + "[];"
			gauge := api.Gauge{Free: 1, Waiting: 4}
			switch {
			case count == 0:
				record = "w0[];"
				gauge.Waiting = 5
			case count > api.MaxCount:
				gauge.Extras = 1
			}
			if dump := h.Dump(); !strings.HasPrefix(dump, record) {
				t.Errorf("count %d, Over %d: Dump %q", count, over, dump)
			}
			if g := h.Gauge(); g != gauge {
				t.Errorf("count %d, Over %d: Gauge %+v, want %+v", count, over, g, gauge)
			}
		}
		// Twice, for an extra that was given back is to be had again.
		for turn := 0; turn < 2; turn++ {
			for i := 0; i < 16; i++ {
				look(i)
				play(t, h, "dup "+strconv.Itoa(i/4)+", get 0, store "+strconv.Itoa(i%4))
			}
			for i := 15; i >= 0; i-- {
				look(i + 1)
				play(t, h, "dup "+strconv.Itoa(i/4)+", nil, store "+strconv.Itoa(i%4))
			}
			look(0)
		}
	}
}

// TestExtras: the count MaxCount and one more.
func TestExtras(t *testing.T) {
	seven := "new 0, set 0, " + hold(4, 0) + hold(3, 0)
	eight := seven + "dup 0, get 0, store 3, "
	four := func(over int) api.Config { return conf(4, 4, 1, 6, over) }
	shows(t, []sight{
		{four(0), seven, "h7[];w0[#1,#1,#1,#1];w0[#1,#1,#1,n];.;||#2,#3|#1", api.Gauge{Free: 1, Waiting: 2}},
		{four(1), seven, "h7[];w0[#1,#1,#1,#1];w0[#1,#1,#1,n];.;||#2,#3|#1", api.Gauge{Free: 1, Waiting: 2}},
		{four(0), eight, "s[];w0[#1,#1,#1,#1];w0[#1,#1,#1,#1];.;||#2,#3|#1", api.Gauge{Free: 1, Waiting: 2, Stuck: 1}},
		{four(1), eight, "h8[];w0[#1,#1,#1,#1];w0[#1,#1,#1,#1];.;||#2,#3|#1", api.Gauge{Free: 1, Waiting: 2, Extras: 1}},
		// The same reference once more is not one more.
		{four(0), seven + "dup 0, get 0, store 2", "h7[];w0[#1,#1,#1,#1];w0[#1,#1,#1,n];.;||#2,#3|#1", api.Gauge{Free: 1, Waiting: 2}},
		{four(1), eight + "dup 0, nil, store 0", "h7[];w0[#1,#1,#1,#1];w0[n,#1,#1,#1];.;||#2,#3|#1", api.Gauge{Free: 1, Waiting: 2}},
		// A stuck object stays so, whatever its count becomes; with the count 0 it does not wait.
		{four(0), eight + "dup 0, nil, store 0", "s[];w0[#1,#1,#1,#1];w0[n,#1,#1,#1];.;||#2,#3|#1", api.Gauge{Free: 1, Waiting: 2, Stuck: 1}},
		{four(0), eight + wipe(0) + wipe(1), "s[];w0[n,n,n,n];w0[n,n,n,n];.;||#2,#3|#1", api.Gauge{Free: 1, Waiting: 2, Stuck: 1}},
		{four(0), eight + wipe(0) + wipe(1) + "dup 0, get 0, store 0", "s[];w0[n,n,n,n];w0[#1,n,n,n];.;||#2,#3|#1", api.Gauge{Free: 1, Waiting: 2, Stuck: 1}},
		{four(0), eight + "drop, drop, nil, set 0", "s[];w0[#1,#1,#1,#1];w0[#1,#1,#1,#1];.;|||n", api.Gauge{Free: 1, Waiting: 2, Stuck: 1}},
	})
}

// TestExtrasOfTwo: two objects want the one extra.
func TestExtrasOfTwo(t *testing.T) {
	c := conf(6, 6, 2, 9, 1)
	// Object 1 has the count 8 and the extra, object 2 the count 7.
	ahead := "new 0, set 0, new 0, set 1, " + hold(4, 0) + hold(4, 0) + hold(4, 1) + hold(3, 1)
	shows(t, []sight{
		{c, ahead, "h8[];h7[];w0[#1,#1,#1,#1];w0[#1,#1,#1,#1];w0[#2,#2,#2,#2];w0[#2,#2,#2,n];||#3,#4,#5,#6|#1,#2", api.Gauge{Waiting: 4, Extras: 1}},
		{c, ahead + "dup 0, get 1, store 3", "h8[];s[];w0[#1,#1,#1,#1];w0[#1,#1,#1,#1];w0[#2,#2,#2,#2];w0[#2,#2,#2,#2];||#3,#4,#5,#6|#1,#2", api.Gauge{Waiting: 4, Extras: 1, Stuck: 1}},
		// The extra is given back, then wanted.
		{c, ahead + "dup 2, nil, store 3, dup 0, get 1, store 3", "h7[];h8[];w0[#1,#1,#1,#1];w0[#1,#1,#1,n];w0[#2,#2,#2,#2];w0[#2,#2,#2,#2];||#3,#4,#5,#6|#1,#2", api.Gauge{Waiting: 4, Extras: 1}},
		// In one store the new value is counted first, so the extra comes back too late.
		{c, ahead + "dup 2, get 1, store 3", "h7[];s[];w0[#1,#1,#1,#1];w0[#1,#1,#1,#2];w0[#2,#2,#2,#2];w0[#2,#2,#2,n];||#3,#4,#5,#6|#1,#2", api.Gauge{Waiting: 4, Stuck: 1}},
		// What is stuck gives nothing back and takes nothing up.
		{c, ahead + "dup 0, get 1, store 3, dup 0, nil, store 3, dup 2, nil, store 0, dup 0, get 1, store 3", "h7[];s[];w0[#1,#1,#1,#1];w0[n,#1,#1,#1];w0[#2,#2,#2,#2];w0[#2,#2,#2,#2];||#3,#4,#5,#6|#1,#2", api.Gauge{Waiting: 4, Stuck: 1}},
	})
}

// TestExtrasAreAsManyAsOver: ten objects with the count 8, one after the other.
func TestExtrasAreAsManyAsOver(t *testing.T) {
	for over := 0; over <= api.MaxOver; over++ {
		h := newHeap(t, conf(30, 3, 1, 99, over))
		for i := 1; i <= 10; i++ {
			play(t, h, "new 0, set 0, "+hold(4, 0)+"drop, "+hold(4, 0)+"drop")
			want := api.Gauge{Free: 30 - 3*i, Waiting: 2 * i, Extras: min(i, over), Stuck: max(0, i-over)}
			if gauge := h.Gauge(); gauge != want {
				t.Errorf("Over %d, %d objects: Gauge %+v, want %+v", over, i, gauge, want)
			}
		}
	}
}
