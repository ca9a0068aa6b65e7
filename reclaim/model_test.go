package reclaim_test

import (
	"math/rand"
	"strconv"
	"testing"

	"reclaim/api"
	"reclaim/reclaim"
)

// object and thing are the model's objects and values: Go's own references stand for the heap's.
type object struct {
	block                         int
	fields                        []thing
	waiting, queued, extra, stuck bool
}

type thing struct {
	kind   int
	number int
	object *object
}

// model does what the document says of the stack, the globals and the fields, and leaves the memory to Go.
// What the document says of the blocks is in books_test.go.
type model struct {
	config  api.Config
	stack   []thing
	globals []thing
	blocks  []*object // nil is a free block; block 1 is entry 0
	queue   []*object
	did     map[string]int // how often what happened
}

func newModel(c api.Config) *model {
	return &model{config: c, globals: make([]thing, c.Globals), blocks: make([]*object, c.Blocks), did: map[string]int{}}
}

// playModel does operations that are known to be OK.
func playModel(m *model, text string) {
	for _, c := range calls(text) {
		m.do(c.op, c.n)
	}
}

// reachable: the objects that the roots lead to.
func (m *model) reachable() map[*object]bool {
	seen := map[*object]bool{}
	todo := append(append([]thing{}, m.stack...), m.globals...)
	for len(todo) > 0 {
		v := todo[0]
		todo = todo[1:]
		if v.object != nil && !seen[v.object] {
			seen[v.object] = true
			todo = append(todo, v.object.fields...)
		}
	}
	return seen
}

// check tells why an operation is refused; the errors come in the order of the document.
func (m *model) check(op, n int) api.Errno {
	depth := len(m.stack)
	indexed := func(most int) bool { return n >= 0 && n < most }
	wants := 0
	switch op {
	case api.OpNew:
		if !indexed(api.MaxFields + 1) {
			return api.ErrIndex
		}
	case api.OpDup:
		if !indexed(depth) {
			return api.ErrIndex
		}
	case api.OpGet, api.OpSet:
		if !indexed(m.config.Globals) {
			return api.ErrIndex
		}
	}
	switch op {
	case api.OpNil, api.OpInt, api.OpNew, api.OpDup, api.OpGet:
		if depth == m.config.Stack {
			return api.ErrDeep
		}
	case api.OpDrop, api.OpSet, api.OpLoad, api.OpTake, api.OpSize, api.OpKind:
		wants = 1
	case api.OpStore, api.OpSame:
		wants = 2
	default:
		return api.ErrOp
	}
	if depth < wants {
		return api.ErrEmpty
	}
	switch op {
	case api.OpNew:
		if len(m.reachable()) == m.config.Blocks {
			return api.ErrFull
		}
	case api.OpTake:
		if m.stack[depth-1].kind != 1 {
			return api.ErrKind
		}
	case api.OpLoad, api.OpStore, api.OpSize:
		v := m.stack[depth-wants]
		if v.kind == 0 {
			return api.ErrNil
		}
		if v.kind == 1 {
			return api.ErrKind
		}
		if op != api.OpSize && !indexed(len(v.object.fields)) {
			return api.ErrIndex
		}
	}
	return api.OK
}

func (m *model) pop() thing {
	v := m.stack[len(m.stack)-1]
	m.stack = m.stack[:len(m.stack)-1]
	return v
}

func (m *model) push(v thing) { m.stack = append(m.stack, v) }

func (m *model) do(op, n int) (int, api.Errno) {
	switch op {
	case opSafe:
		return m.safepoint(), api.OK
	case opCollect:
		return m.collect("Collect"), api.OK
	}
	if e := m.check(op, n); e != api.OK {
		if e == api.ErrFull {
			m.collect("ErrFull")
		}
		return 0, e
	}
	switch op {
	case api.OpNil:
		m.push(thing{})
	case api.OpInt:
		m.push(thing{kind: 1, number: n})
	case api.OpNew:
		m.push(thing{kind: 2, object: m.newObject(n)})
	case api.OpDup:
		m.push(m.stack[len(m.stack)-1-n])
	case api.OpDrop:
		m.pop()
	case api.OpGet:
		m.push(m.globals[n])
	case api.OpSet:
		m.globals[n] = m.pop()
	case api.OpLoad:
		m.push(m.pop().object.fields[n])
	case api.OpStore:
		v := m.pop()
		m.storeField(m.pop().object, n, v)
	case api.OpSame:
		if m.pop() == m.pop() {
			return 1, api.OK
		}
	case api.OpTake:
		return m.pop().number, api.OK
	case api.OpSize:
		return len(m.stack[len(m.stack)-1].object.fields), api.OK
	case api.OpKind:
		return m.stack[len(m.stack)-1].kind, api.OK
	}
	return 0, api.OK
}

// both does an operation, a Safepoint or a Collect on the heap and on the model, and tells if they answer alike and look alike then.
func both(t *testing.T, h *reclaim.Heap, m *model, op, n int, about string) bool {
	t.Helper()
	wantNumber, wantErrno := m.do(op, n)
	number, errno := doAny(h, op, n)
	if number != wantNumber || errno != wantErrno {
		t.Errorf("%s: Do(%d, %d) = %d, error %d, want %d, error %d", about, op, n, number, errno, wantNumber, wantErrno)
		return false
	}
	return looksAlike(t, h, m, about+": Do("+strconv.Itoa(op)+", "+strconv.Itoa(n)+")")
}

// drain looks at all that the roots lead to at a distance of one field, and empties stack and globals.
func drain(t *testing.T, h *reclaim.Heap, m *model, about string) {
	t.Helper()
	about = "behind " + about
	both(t, h, m, api.OpInt, 1, about)
	both(t, h, m, api.OpTake, 0, about)
	for depth := len(m.stack); depth > 0; depth-- {
		look(t, h, m, about)
	}
	both(t, h, m, api.OpDrop, 0, about)
	for i := range m.globals {
		both(t, h, m, api.OpGet, i, about)
		look(t, h, m, about)
	}
}

// look looks at the top and pops it.
func look(t *testing.T, h *reclaim.Heap, m *model, about string) {
	t.Helper()
	both(t, h, m, api.OpKind, 0, about)
	both(t, h, m, api.OpSize, 0, about)
	for i := 0; i < api.MaxFields; i++ {
		depth := len(m.stack)
		both(t, h, m, api.OpDup, 0, about)
		both(t, h, m, api.OpLoad, i, about)
		both(t, h, m, api.OpKind, 0, about)
		if len(m.stack) > depth {
			both(t, h, m, api.OpDrop, 0, about)
		}
	}
	if len(m.stack) > 0 && m.stack[len(m.stack)-1].kind == 1 {
		both(t, h, m, api.OpTake, 0, about)
		return
	}
	both(t, h, m, api.OpDrop, 0, about)
}

// drawOp draws an operation, or none now and then; those that make, copy and follow references come more often.
func drawOp(draw *rand.Rand) int {
	often := []int{api.OpNew, api.OpNew, api.OpDup, api.OpDup, api.OpDup, api.OpGet, api.OpLoad, api.OpStore, api.OpStore, opSafe, opCollect}
	k := draw.Intn(15 + len(often))
	if k < 15 {
		return k - 1
	}
	return often[k-15]
}

// step does a drawn operation on both.
func step(t *testing.T, h *reclaim.Heap, m *model, draw *rand.Rand, about string) bool {
	t.Helper()
	op := drawOp(draw)
	return both(t, h, m, op, draw.Intn(7)-1, about)
}

// TestDoAsModel: many operations, drawn from fixed seeds, answer as the model's do.
func TestDoAsModel(t *testing.T) {
	for seed := int64(0); seed < 300; seed++ {
		draw := rand.New(rand.NewSource(seed))
		c := api.Config{Blocks: 1 + draw.Intn(99), Stack: 1 + draw.Intn(16), Globals: draw.Intn(9), Budget: 1 + draw.Intn(99), Over: draw.Intn(10)}
		c.Zero = c.Stack + c.Globals + 1 + draw.Intn(99-c.Stack-c.Globals)
		h := newHeap(t, c)
		m := newModel(c)
		for i := 0; i < 600; i++ {
			if !step(t, h, m, draw, "seed "+strconv.FormatInt(seed, 10)+", step "+strconv.Itoa(i)) {
				return
			}
		}
	}
}

// TestOnOwnCallsAlone: heaps that are called by turns answer as each of them does alone (P2).
func TestOnOwnCallsAlone(t *testing.T) {
	for seed := int64(0); seed < 50; seed++ {
		c := api.Config{Blocks: 20, Stack: 5, Globals: 3, Budget: 1, Zero: 9, Over: 1}
		heaps := []*reclaim.Heap{newHeap(t, c), newHeap(t, c), newHeap(t, c)}
		models := []*model{newModel(c), newModel(c), newModel(c)}
		draw := rand.New(rand.NewSource(seed))
		for i := 0; i < 900; i++ {
			k := draw.Intn(3)
			if !step(t, heaps[k], models[k], draw, "heap "+strconv.Itoa(k)) {
				return
			}
		}
	}
}
