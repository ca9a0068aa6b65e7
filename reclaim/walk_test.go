package reclaim_test

import (
	"math/rand"
	"strconv"
	"strings"
	"testing"

	"reclaim/api"
)

// moves are drawn on walks; the letters stand for two globals, a field and a number of fields.
// Many are about the objects in globals 0 and 1, so that these come to be held by many fields.
var moves = []string{
	"new K, set G", "new 4, set G", "new K", "drop", "drop", "drop", "get G, set H", "get G, load F, set H",
	"get G, get 0, store F", "get G, get 0, store F", "get G, get 0, store F", "get G, get 0, store F", "get G, get 0, store F", "get G, get 0, store F",
	"get G, get 1, store F", "get G, get 1, store F", "get G, get 1, store F", "get G, get 1, store F", "get G, get 1, store F", "get G, get 1, store F",
	"get G, get H, store F", "get G, get H, store F", "get G, get G, store F", "get G, load F, get H, store F",
	"get G, nil, store F", "get G, nil, store F", "get G, nil, store F", "get G, int 5, store F",
	"get G, new 1, store F", "get G, new 0, store F", "get G, new 0, store F", "new 1, get G, store 0",
}

// ringless moves give references to new objects alone, so an object holds none but older ones, and no ring comes of them.
var ringless = []string{
	"new 4, set G", "new K, set G", "nil, set G", "new K, drop", "drop", "get G, nil, store F", "get G, int 5, store F", "get G, load F, set H", "get G", "safe",
	"new 1, get G, store 0", "new 4, dup 0, get G, store F", "new 4, dup 0, get G, store F, set H", "new 4, dup 0, get G, store 1, dup 0, get H, store 2, set G",
	"new 4, dup 0, get 0, store 0, dup 0, get 0, store 1, dup 0, get 0, store 2, get H, store 3", "new 4, dup 0, get 0, store 0, dup 0, get 0, store 1, dup 0, get G, store 3, set G",
	"new 4, dup 0, new K, store 0, dup 0, new 0, store 1, dup 0, get G, store 3, set G", "new 4, dup 0, get G, store 0, dup 0, get 0, store 1, dup 0, get 0, store 3, set G",
}

func drawMove(draw *rand.Rand, moves []string, globals int) string {
	move := moves[draw.Intn(len(moves))]
	for i, most := range []int{globals, globals, api.MaxFields, api.MaxFields + 1} {
		letter := "GHFK"[i : i+1]
		move = strings.ReplaceAll(move, letter, strconv.Itoa(draw.Intn(most)))
	}
	return move
}

// moveAbout does moves on both. The model looks as the heap does, so what holds of it holds of the heap.
func moveAbout(t *testing.T, c api.Config, moves []string, seed int64, did map[string]int) bool {
	t.Helper()
	h := newHeap(t, c)
	m := newModel(c)
	m.did = did
	draw := rand.New(rand.NewSource(seed))
	for i := 0; i < 300; i++ {
		move := drawMove(draw, moves, c.Globals)
		if i < c.Globals {
			move = "new 4, set " + strconv.Itoa(i)
		}
		about := "seed " + strconv.FormatInt(seed, 10) + ", move " + strconv.Itoa(i) + ", " + move
		for _, one := range calls(move) {
			due := -1
			if one.op == opSafe {
				due = m.due()
			}
			free := m.gauge().Free
			if !both(t, h, m, one.op, one.n, about) {
				return false
			}
			freed := m.gauge().Free - free
			if due >= 0 && freed != due || !m.keepsObjects() {
				t.Errorf("P12: %s: %d blocks freed, %d due: Dump %s", about, freed, due, m.dump())
				return false
			}
			if one.op == opCollect && len(m.unreachable()) > 0 {
				t.Errorf("P11: %s: Dump %s", about, m.dump())
				return false
			}
		}
	}
	return true
}

// due is how many blocks P12 says that a Safepoint frees, or -1 if it says nothing.
func (m *model) due() int {
	unreachable := m.unreachable()
	if m.gauge().Stuck > 0 || hasRing(unreachable) {
		return -1
	}
	switch n := len(unreachable); {
	case n < m.config.Budget:
		m.did["fewer than Budget"]++
	case n == m.config.Budget:
		m.did["as many as Budget"]++
	case n > m.config.Budget:
		m.did["more than Budget"]++
	}
	return min(len(unreachable), m.config.Budget)
}

// unreachable: the objects with blocks that no root leads to.
func (m *model) unreachable() []*object {
	var l []*object
	reachable := m.reachable()
	for _, o := range m.blocks {
		if o != nil && !reachable[o] {
			l = append(l, o)
		}
	}
	return l
}

// hasRing: some are left when those that none of the others holds are taken away, again and again.
func hasRing(l []*object) bool {
	for len(l) > 0 {
		held := map[*object]bool{}
		for _, o := range l {
			for _, v := range o.fields {
				held[v.object] = true
			}
		}
		var left []*object
		for _, o := range l {
			if held[o] {
				left = append(left, o)
			}
		}
		if len(left) == len(l) {
			return true
		}
		l = left
	}
	return false
}

// keepsObjects: nothing that is reachable or that a field holds is in the queue or has lost its block (P12).
func (m *model) keepsObjects() bool {
	kept := m.reachable()
	for _, o := range m.blocks {
		if o == nil {
			continue
		}
		for _, v := range o.fields {
			if v.object != nil {
				kept[v.object] = true
			}
		}
	}
	for o := range kept {
		if o.queued || m.blocks[o.block-1] != o {
			return false
		}
	}
	return true
}

// fleeting moves leave many objects behind, and holders of what the globals have among them, so that no block is free and many wait.
var fleeting = []string{"new 0, drop", "new 0, drop", "new 1, get G, store 0", "new 2, dup 0, get G, store 0, new 0, store 1", "new 2, dup 0, new 0, store 0, get G, store 1", "new 0, set G", "get G, drop"}

// happened: walks on which something never happens would show nothing of it.
func happened(t *testing.T, did map[string]int, names ...string) {
	t.Helper()
	for _, name := range names {
		if did[name] < 20 {
			t.Errorf("%q happened too seldom: %d times", name, did[name])
		}
	}
}

// TestBooks: Dump and Gauge behind every operation of many moves, as the model has them (P5 to P8).
func TestBooks(t *testing.T) {
	t.Parallel()
	did := map[string]int{}
	for seed := int64(0); seed < 300; seed++ {
		draw := rand.New(rand.NewSource(-1 - seed))
		c := conf(30+draw.Intn(20), 2+draw.Intn(2), 4+draw.Intn(3), 0, draw.Intn(3))
		c.Zero = c.Stack + c.Globals + 1 + draw.Intn(2)
		if !moveAbout(t, c, moves, seed, did) {
			return
		}
	}
	happened(t, did, "MaxCount and one more", "extra back by OpStore", "stuck passed over by OpStore", "sorting by OpNew", "sorting by OpStore", "freeing by OpNew")
}

// TestFreeing: the same with Safepoints among the moves (P9, P12).
func TestFreeing(t *testing.T) {
	t.Parallel()
	did := map[string]int{}
	for seed := int64(0); seed < 300; seed++ {
		draw := rand.New(rand.NewSource(-1 - seed))
		c := conf(10+draw.Intn(40), 2+draw.Intn(2), 4+draw.Intn(3), 0, draw.Intn(3))
		c.Zero = c.Stack + c.Globals + 1 + draw.Intn(2)
		c.Budget = 1 + draw.Intn(4)
		all := [][]string{ringless, fleeting, append([]string{"safe", "safe", "nil, set G", "nil, set G"}, moves...)}
		if !moveAbout(t, c, all[seed%3], seed, did) {
			return
		}
	}
	happened(t, did, "extra back by freeing", "stuck passed over by freeing", "waiting by freeing", "queued by freeing", "freeing by OpNew", "sorting by freeing", "fewer than Budget", "as many as Budget", "more than Budget")
}

// crowding moves keep a chain of holders in global 3, whose objects hold those of globals 0 to 2 many times; rings fill the rest.
var crowding = []string{
	"new 4, dup 0, get 0, store 0, dup 0, get 0, store 1, dup 0, get 0, store 2, dup 0, get 3, store 3, set 3",
	"new 4, dup 0, get 1, store 0, dup 0, get 1, store 1, dup 0, get 1, store 2, dup 0, get 3, store 3, set 3",
	"new 4, dup 0, get 2, store 0, dup 0, get 2, store 1, dup 0, get 2, store 2, dup 0, get 3, store 3, set 3",
	"new 4, dup 0, get 2, store 0, dup 0, get 1, store 1, dup 0, get 0, store 2, dup 0, get 3, store 3, set 3",
	"new 4, dup 0, get G, store 0, dup 0, get G, store 1, dup 0, get G, store 2, get 0, store 3",
	"new 4, dup 0, get 0, store 0, dup 0, get 1, store 1, dup 0, get 1, store 2, dup 0, get 3, store 3, set 3",
	"new 4, dup 0, get 2, store 0, dup 0, get 2, store 1, dup 0, get 1, store 2, dup 0, get 3, store 3, set 3",
	"get 3, load 3, set 3", "get 3, load 3, load 3, set 3", "get 3, nil, store 0", "get 3, get 0, store 1", "get 3, get 1, store 2", "get 3, get 2, store 0", "get 3, nil, store F",
	"new 2, dup 0, dup 0, store 0, drop", "new 1, new 2, dup 1, dup 1, store 0, dup 0, dup 2, store 1, drop, drop",
	"get 0, get 1, set 0, set 1", "get 0, get 2, set 0, set 2", "new 0, set 0", "new 4, set 1", "drop", "drop", "safe", "collect",
}

// TestCollecting: the same on heaps that are often full, with Collects among the moves (P5, P10, P11).
func TestCollecting(t *testing.T) {
	t.Parallel()
	did := map[string]int{}
	for seed := int64(0); seed < 300; seed++ {
		draw := rand.New(rand.NewSource(-1 - seed))
		c := conf(8+draw.Intn(25), 4+draw.Intn(2), 4+draw.Intn(2), 0, draw.Intn(3))
		c.Zero = c.Stack + c.Globals + 1 + draw.Intn(9)
		c.Budget = 1 + draw.Intn(4)
		if !moveAbout(t, c, crowding, seed, did) {
			return
		}
	}
	for _, by := range []string{"Collect", "OpNew", "ErrFull"} {
		happened(t, did, "collection by "+by, "stuck, then counted by "+by, "stuck, then an extra by "+by, "stuck, then stuck by "+by, "an extra, then stuck by "+by, "an extra, then none by "+by)
	}
	for _, by := range []string{"Collect", "OpNew"} {
		happened(t, did, "stuck, then waiting by "+by, "held, then waiting by "+by)
	}
}
