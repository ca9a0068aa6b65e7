package reclaim_test

import (
	"strconv"
	"strings"
	"testing"

	"reclaim/api"
	"reclaim/reclaim"
)

// count looks at every field there is, each time anew.
func (m *model) count(o *object) int {
	n := 0
	for _, holder := range m.blocks {
		if holder == nil {
			continue
		}
		for _, v := range holder.fields {
			if v.object == o {
				n++
			}
		}
	}
	return n
}

func (m *model) isRoot(o *object) bool {
	for _, v := range append(append([]thing{}, m.stack...), m.globals...) {
		if v.object == o {
			return true
		}
	}
	return false
}

func (m *model) gauge() api.Gauge {
	var g api.Gauge
	for _, o := range m.blocks {
		if o == nil {
			g.Free++
			continue
		}
		for _, c := range []struct {
			is    bool
			place *int
		}{{o.waiting, &g.Waiting}, {o.queued, &g.Queued}, {o.extra, &g.Extras}, {o.stuck, &g.Stuck}} {
			if c.is {
				*c.place++
			}
		}
	}
	return g
}

// wait: o is to wait, and does not yet.
func (m *model) wait(o *object) {
	if m.gauge().Waiting == m.config.Zero {
		m.sort()
	}
	o.waiting = true
}

func (m *model) sort() {
	for _, o := range m.blocks {
		if o != nil && o.waiting && !m.isRoot(o) {
			o.waiting = false
			o.queued = true
			m.queue = append(m.queue, o)
		}
	}
}

func (m *model) newObject(n int) *object {
	for i, there := range m.blocks {
		if there == nil {
			o := &object{block: i + 1, fields: make([]thing, n)}
			m.wait(o)
			m.blocks[i] = o
			return o
		}
	}
	panic("the model does not free blocks")
}

func (m *model) storeField(holder *object, n int, v thing) {
	old := holder.fields[n].object
	if old != nil && old == v.object {
		return
	}
	if o := v.object; o != nil {
		o.waiting = false
		if !o.stuck && m.count(o) == api.MaxCount {
			o.extra = m.gauge().Extras < m.config.Over
			o.stuck = !o.extra
		}
	}
	holder.fields[n] = v
	if old == nil || old.stuck {
		return
	}
	count := m.count(old)
	if count == api.MaxCount {
		old.extra = false
	}
	if count == 0 {
		m.wait(old)
	}
}

func (v thing) String() string {
	switch v.kind {
	case 0:
		return "n"
	case 1:
		return strconv.Itoa(v.number)
	}
	return "#" + strconv.Itoa(v.object.block)
}

func texts(l []thing) string {
	var all []string
	for _, v := range l {
		all = append(all, v.String())
	}
	return strings.Join(all, ",")
}

// letter is what an object's record begins with.
func (o *object) letter() string {
	switch {
	case o.queued:
		return "q"
	case o.waiting:
		return "w"
	case o.stuck:
		return "s"
	}
	return "h"
}

func (m *model) dump() string {
	counts := make([]int, len(m.blocks)+1)
	for _, o := range m.blocks {
		if o == nil {
			continue
		}
		for _, v := range o.fields {
			if v.object != nil {
				counts[v.object.block]++
			}
		}
	}
	var s strings.Builder
	for _, o := range m.blocks {
		if o == nil {
			s.WriteString(".;")
			continue
		}
		s.WriteString(o.letter())
		if !o.stuck {
			s.WriteString(strconv.Itoa(counts[o.block]))
		}
		s.WriteString("[" + texts(o.fields) + "];")
	}
	var queue []string
	for _, o := range m.queue {
		queue = append(queue, strconv.Itoa(o.block))
	}
	s.WriteString("|" + strings.Join(queue, ",") + "|" + texts(m.stack) + "|" + texts(m.globals))
	return s.String()
}

// looksAlike is called behind each operation, so a look that changes something is seen behind the next.
func looksAlike(t *testing.T, h *reclaim.Heap, m *model, about string) bool {
	t.Helper()
	if got, want := h.Dump(), m.dump(); got != want {
		t.Errorf("%s: Dump\n%s, want\n%s", about, got, want)
		return false
	}
	if got, want := h.Gauge(), m.gauge(); got != want {
		t.Errorf("%s: Gauge %+v, want %+v", about, got, want)
		return false
	}
	return true
}
