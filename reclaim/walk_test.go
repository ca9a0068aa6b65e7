package reclaim_test

import (
	"math/rand"
	"strconv"
	"strings"
	"testing"

	"reclaim/api"
)

// moves are drawn on walks; the letters stand for two globals, a field and a number of fields.
// Many are about the objects in globals 0 and 1, so that these come to be held by many fields.
var moves = []string{
	"new K, set G", "new 4, set G", "new K", "drop", "drop", "drop", "get G, set H", "get G, load F, set H",
	"get G, get 0, store F", "get G, get 0, store F", "get G, get 0, store F", "get G, get 0, store F", "get G, get 0, store F", "get G, get 0, store F",
	"get G, get 1, store F", "get G, get 1, store F", "get G, get 1, store F", "get G, get 1, store F", "get G, get 1, store F", "get G, get 1, store F",
	"get G, get H, store F", "get G, get H, store F", "get G, get G, store F", "get G, load F, get H, store F",
	"get G, nil, store F", "get G, nil, store F", "get G, nil, store F", "get G, int 5, store F",
	"get G, new 1, store F", "get G, new 0, store F", "get G, new 0, store F", "new 1, get G, store 0",
}

func drawMove(draw *rand.Rand, globals int) string {
	move := moves[draw.Intn(len(moves))]
	for i, most := range []int{globals, globals, api.MaxFields, api.MaxFields + 1} {
		letter := "GHFK"[i : i+1]
		move = strings.ReplaceAll(move, letter, strconv.Itoa(draw.Intn(most)))
	}
	return move
}

// seen counts what happened on walks: walks on which it never does would show nothing.
type seen struct{ extra, back, stuck, fewer, sortedByNew, sortedByStore int }

func (s *seen) note(op int, before, after api.Gauge, stuckBefore, stuckAfter int) {
	for _, c := range []struct {
		happened bool
		counter  *int
	}{
		{after.Extras > before.Extras, &s.extra},
		{after.Extras < before.Extras, &s.back},
		{after.Stuck > before.Stuck, &s.stuck},
		{after.Stuck == before.Stuck && stuckAfter < stuckBefore, &s.fewer},
		{op == api.OpNew && after.Queued > before.Queued, &s.sortedByNew},
		{op == api.OpStore && after.Queued > before.Queued, &s.sortedByStore},
	} {
		if c.happened {
			*c.counter++
		}
	}
}

// heldStuck is how many fields are references to objects that are stuck.
func (m *model) heldStuck() int {
	n := 0
	for _, o := range m.blocks {
		if o != nil && o.stuck {
			n += m.count(o)
		}
	}
	return n
}

// moveAbout does moves until no block is free, and notes what happens.
func moveAbout(t *testing.T, c api.Config, seed int64, s *seen) bool {
	t.Helper()
	h := newHeap(t, c)
	m := newModel(c)
	draw := rand.New(rand.NewSource(seed))
	for i := 0; i < 300; i++ {
		move := drawMove(draw, c.Globals)
		if i < c.Globals {
			move = "new 4, set " + strconv.Itoa(i)
		}
		for _, one := range calls(move) {
			before := m.gauge()
			held := m.heldStuck()
			if one.op == api.OpNew && before.Free == 0 {
				return true
			}
			if !both(t, h, m, one.op, one.n, "seed "+strconv.FormatInt(seed, 10)+", move "+strconv.Itoa(i)+", "+move) {
				return false
			}
			s.note(one.op, before, m.gauge(), held, m.heldStuck())
		}
	}
	return true
}

// TestBooks: Dump and Gauge behind every operation of many moves, as the model has them (P5 to P8).
func TestBooks(t *testing.T) {
	var s seen
	for seed := int64(0); seed < 300; seed++ {
		draw := rand.New(rand.NewSource(-1 - seed))
		c := api.Config{Blocks: 30 + draw.Intn(20), Stack: 2 + draw.Intn(2), Globals: 4 + draw.Intn(3), Budget: 1, Over: draw.Intn(3)}
		c.Zero = c.Stack + c.Globals + 1 + draw.Intn(2)
		if !moveAbout(t, c, seed, &s) {
			return
		}
	}
	for _, n := range []int{s.extra, s.back, s.stuck, s.fewer, s.sortedByNew, s.sortedByStore} {
		if n < 10 {
			t.Errorf("too little happened: %+v", s)
		}
	}
}
