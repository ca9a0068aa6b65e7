package reclaim_test

import (
	"slices"
	"strconv"
	"strings"
	"testing"

	"reclaim/api"
	"reclaim/reclaim"
)

// count looks at every field there is, each time anew.
func (m *model) count(o *object) int {
	n := 0
	for _, holder := range m.blocks {
		if holder == nil {
			continue
		}
		for _, v := range holder.fields {
			if v.object == o {
				n++
			}
		}
	}
	return n
}

func (m *model) isRoot(o *object) bool {
	for _, v := range append(append([]thing{}, m.stack...), m.globals...) {
		if v.object == o {
			return true
		}
	}
	return false
}

func (m *model) gauge() api.Gauge {
	var g api.Gauge
	for _, o := range m.blocks {
		if o == nil {
			g.Free++
			continue
		}
		for _, c := range []struct {
			is    bool
			place *int
		}{{o.waiting, &g.Waiting}, {o.queued, &g.Queued}, {o.extra, &g.Extras}, {o.stuck, &g.Stuck}} {
			if c.is {
				*c.place++
			}
		}
	}
	return g
}

// wait: o is to wait, and does not yet.
func (m *model) wait(o *object, by string) {
	if m.gauge().Waiting == m.config.Zero {
		m.did["sorting by "+by]++
		m.sort()
	}
	o.waiting = true
}

func (m *model) sort() {
	for _, o := range m.blocks {
		if o != nil && o.waiting && !m.isRoot(o) {
			o.waiting = false
			m.enqueue(o)
		}
	}
}

func (m *model) enqueue(o *object) {
	o.queued = true
	m.queue = append(m.queue, o)
}

func (m *model) newObject(n int) *object {
	if m.gauge().Free == 0 && len(m.queue) > 0 {
		m.did["freeing by OpNew"]++
		m.freeFirst()
	} else if m.gauge().Free == 0 {
		m.collect("OpNew")
	}
	i := slices.Index(m.blocks, nil)
	o := &object{block: i + 1, fields: make([]thing, n)}
	m.wait(o, "OpNew")
	m.blocks[i] = o
	return o
}

func (m *model) storeField(holder *object, n int, v thing) {
	old := holder.fields[n].object
	if old != nil && old == v.object {
		return
	}
	if o := v.object; o != nil {
		o.waiting = false
		if !o.stuck && m.count(o) == api.MaxCount {
			o.extra = m.gauge().Extras < m.config.Over
			o.stuck = !o.extra
			m.did["MaxCount and one more"]++
		}
	}
	holder.fields[n] = v
	if old != nil && m.lost(old, "OpStore") {
		m.wait(old, "OpStore")
	}
}

// lost: one field less is a reference to o. It tells if o, not being stuck, has the count 0 now.
func (m *model) lost(o *object, by string) bool {
	if o.stuck {
		m.did["stuck passed over by "+by]++
		return false
	}
	count := m.count(o)
	if count == api.MaxCount {
		m.did["extra back by "+by]++
		o.extra = false
	}
	return count == 0
}

func (m *model) freeFirst() {
	first := m.queue[0]
	for i := range first.fields {
		o := first.fields[i].object
		first.fields[i] = thing{}
		if o == nil || !m.lost(o, "freeing") {
			continue
		}
		if m.isRoot(o) {
			m.did["waiting by freeing"]++
			m.wait(o, "freeing")
			continue
		}
		m.did["queued by freeing"]++
		m.enqueue(o)
	}
	m.queue = m.queue[1:]
	m.blocks[first.block-1] = nil
}

func (m *model) safepoint() int {
	m.sort()
	for i := 0; i < m.config.Budget; i++ {
		if len(m.queue) == 0 {
			return i
		}
		m.freeFirst()
	}
	return m.config.Budget
}

// collect looks at each object that is left as if it were new.
func (m *model) collect(by string) int {
	m.did["collection by "+by]++
	reachable := m.reachable()
	freed := 0
	for i, o := range m.blocks {
		if o != nil && !reachable[o] {
			m.blocks[i] = nil
			freed++
		}
	}
	m.queue = nil
	extras := 0
	for _, o := range m.blocks {
		if o == nil {
			continue
		}
		ahead := *o
		count := m.count(o)
		o.waiting = count == 0
		o.extra = count > api.MaxCount && extras < m.config.Over
		o.stuck = count > api.MaxCount && !o.extra
		if o.extra {
			extras++
		}
		m.noteChange(ahead, *o, by)
	}
	return freed
}

// noteChange notes what a collection made of an object.
func (m *model) noteChange(ahead, behind object, by string) {
	for name, is := range map[string]bool{
		"stuck, then counted by ":  ahead.stuck && !behind.stuck && !behind.extra && !behind.waiting,
		"stuck, then an extra by ": ahead.stuck && behind.extra,
		"stuck, then stuck by ":    ahead.stuck && behind.stuck,
		"stuck, then waiting by ":  ahead.stuck && behind.waiting,
		"an extra, then stuck by ": ahead.extra && behind.stuck,
		"an extra, then none by ":  ahead.extra && !behind.extra,
		"held, then waiting by ":   !ahead.stuck && !ahead.waiting && behind.waiting,
	} {
		if is {
			m.did[name+by]++
		}
	}
}

func (v thing) String() string {
	switch v.kind {
	case 0:
		return "n"
	case 1:
		return strconv.Itoa(v.number)
	}
	return "#" + strconv.Itoa(v.object.block)
}

func texts(l []thing) string {
	var all []string
	for _, v := range l {
		all = append(all, v.String())
	}
	return strings.Join(all, ",")
}

// letter is what an object's record begins with.
func (o *object) letter() string {
	switch {
	case o.queued:
		return "q"
	case o.waiting:
		return "w"
	case o.stuck:
		return "s"
	}
	return "h"
}

func (m *model) dump() string {
	counts := make([]int, len(m.blocks)+1)
	for _, o := range m.blocks {
		if o == nil {
			continue
		}
		for _, v := range o.fields {
			if v.object != nil {
				counts[v.object.block]++
			}
		}
	}
	var s strings.Builder
	for _, o := range m.blocks {
		if o == nil {
			s.WriteString(".;")
			continue
		}
		s.WriteString(o.letter())
		if !o.stuck {
			s.WriteString(strconv.Itoa(counts[o.block]))
		}
		s.WriteString("[" + texts(o.fields) + "];")
	}
	var queue []string
	for _, o := range m.queue {
		queue = append(queue, strconv.Itoa(o.block))
	}
	s.WriteString("|" + strings.Join(queue, ",") + "|" + texts(m.stack) + "|" + texts(m.globals))
	return s.String()
}

// looksAlike is called behind each operation, so a look that changes something is seen behind the next.
func looksAlike(t *testing.T, h *reclaim.Heap, m *model, about string) bool {
	t.Helper()
	if got, want := h.Dump(), m.dump(); got != want {
		t.Errorf("%s: Dump\n%s, want\n%s", about, got, want)
		return false
	}
	if got, want := h.Gauge(), m.gauge(); got != want {
		t.Errorf("%s: Gauge %+v, want %+v", about, got, want)
		return false
	}
	return true
}
