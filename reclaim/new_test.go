package reclaim_test

import (
	"testing"

	"reclaim/api"
	"reclaim/reclaim"
)

func TestNewTakesConfigurations(t *testing.T) {
	for _, c := range []api.Config{
		example,
		{Blocks: 1, Stack: 1, Globals: 0, Budget: 1, Zero: 2, Over: 0},
		{Blocks: 99, Stack: 16, Globals: 8, Budget: 99, Zero: 99, Over: 9},
		{Blocks: 99, Stack: 16, Globals: 8, Budget: 99, Zero: 25, Over: 9},
		{Blocks: 1, Stack: 1, Globals: 8, Budget: 1, Zero: 10, Over: 0},
		{Blocks: 1, Stack: 16, Globals: 0, Budget: 1, Zero: 17, Over: 0},
	} {
		newHeap(t, c)
	}
}

func TestNewRefusesWhatIsNoConfiguration(t *testing.T) {
	for _, c := range []api.Config{
		{},
		{Blocks: 0, Stack: 4, Globals: 1, Budget: 1, Zero: 6, Over: 0},
		{Blocks: 100, Stack: 4, Globals: 1, Budget: 1, Zero: 6, Over: 0},
		{Blocks: 3, Stack: 0, Globals: 1, Budget: 1, Zero: 6, Over: 0},
		{Blocks: 3, Stack: 17, Globals: 1, Budget: 1, Zero: 19, Over: 0},
		{Blocks: 3, Stack: 4, Globals: -1, Budget: 1, Zero: 6, Over: 0},
		{Blocks: 3, Stack: 4, Globals: 9, Budget: 1, Zero: 14, Over: 0},
		{Blocks: 3, Stack: 4, Globals: 1, Budget: 0, Zero: 6, Over: 0},
		{Blocks: 3, Stack: 4, Globals: 1, Budget: 100, Zero: 6, Over: 0},
		{Blocks: 3, Stack: 4, Globals: 1, Budget: 1, Zero: 5, Over: 0},
		{Blocks: 3, Stack: 16, Globals: 8, Budget: 1, Zero: 24, Over: 0},
		{Blocks: 3, Stack: 4, Globals: 1, Budget: 1, Zero: 100, Over: 0},
		{Blocks: 3, Stack: 4, Globals: 1, Budget: 1, Zero: 6, Over: -1},
		{Blocks: 3, Stack: 4, Globals: 1, Budget: 1, Zero: 6, Over: 10},
	} {
		refuseConfig(t, c)
	}
}

// TestNewAtAllNumbers lays numbers from far outside in every place, alone and in pairs.
func TestNewAtAllNumbers(t *testing.T) {
	far := []int{minInt, minInt + 1, -1 << 62, -100, -1, 100, 1 << 32, 1 << 62, maxInt - 1, maxInt}
	for i := 0; i < 6; i++ {
		for j := 0; j < 6; j++ {
			for _, a := range far {
				for _, b := range far {
					v := [6]int{3, 4, 1, 1, 6, 0}
					v[i] = a
					v[j] = b
					refuseConfig(t, api.Config{Blocks: v[0], Stack: v[1], Globals: v[2], Budget: v[3], Zero: v[4], Over: v[5]})
				}
			}
		}
	}
}

func refuseConfig(t *testing.T, c api.Config) {
	t.Helper()
	if h, e := reclaim.New(c); h != nil || e != api.ErrConfig {
		t.Errorf("New(%+v) = %v, %d, want nil, ErrConfig", c, h, e)
	}
}

func TestNewStackIsEmptyAndHasItsRoom(t *testing.T) {
	for stack := 1; stack <= api.MaxStack; stack++ {
		h := newHeap(t, api.Config{Blocks: 1, Stack: stack, Globals: 0, Budget: 1, Zero: stack + 1, Over: 0})
		refuse(t, h, "kind", api.ErrEmpty)
		for i := 0; i < stack; i++ {
			play(t, h, "nil")
		}
		refuse(t, h, "nil", api.ErrDeep)
	}
}

func TestNewGlobalsAreNil(t *testing.T) {
	for globals := 0; globals <= api.MaxGlobals; globals++ {
		h := newHeap(t, api.Config{Blocks: 1, Stack: 1, Globals: globals, Budget: 1, Zero: globals + 2, Over: 0})
		for i := 0; i < globals; i++ {
			if _, e := h.Do(api.OpGet, i); e != api.OK {
				t.Errorf("OpGet %d of %d globals: error %d", i, globals, e)
			}
			want(t, h, "kind", 0)
			play(t, h, "drop")
		}
		if n, e := h.Do(api.OpGet, globals); n != 0 || e != api.ErrIndex {
			t.Errorf("OpGet %d of %d globals = %d, error %d", globals, globals, n, e)
		}
	}
}

// TestNewBlocksAreFree chains the objects up from a global, so that none of them can ever be freed.
func TestNewBlocksAreFree(t *testing.T) {
	for blocks := 1; blocks <= api.MaxBlocks; blocks++ {
		h := newHeap(t, api.Config{Blocks: blocks, Stack: 3, Globals: 1, Budget: 1, Zero: 5, Over: 0})
		for i := 0; i < blocks; i++ {
			play(t, h, "new 1, dup 0, get 0, store 0, set 0")
		}
		refuse(t, h, "new 1", api.ErrFull)
	}
}
