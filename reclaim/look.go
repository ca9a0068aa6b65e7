package reclaim

import (
	"strconv"

	"reclaim/api"
)

// Gauge tells how much there is of what (P7).
func (h *Heap) Gauge() api.Gauge {
	return api.Gauge{
		Free:    h.inState(stateFree),
		Waiting: h.waiting(),
		Queued:  len(h.queue),
		Extras:  h.extras(),
		Stuck:   h.inState(stateStuck),
	}
}

func (h *Heap) inState(state int) int {
	n := 0
	for b := 1; b < len(h.blocks); b++ {
		if h.blocks[b].state == state {
			n++
		}
	}
	return n
}

// Dump writes the heap down (P8).
func (h *Heap) Dump() string {
	s := ""
	for b := 1; b < len(h.blocks); b++ {
		s += writeBlock(h.blocks[b])
	}
	s += "|" + writeNumbers(h.queue)
	s += "|" + writeValues(h.stack)
	s += "|" + writeValues(h.globals)
	return s
}

func writeBlock(b block) string {
	if b.state == stateFree {
		return ".;"
	}
	s := writeState(b)
	s += "[" + writeValues(b.fields)
	return s + "];"
}

// writeState: a stuck object has no count that could be written.
func writeState(b block) string {
	if b.state == stateStuck {
		return "s"
	}
	count := strconv.Itoa(b.count)
	if b.state == stateQueued {
		return "q" + count
	}
	if b.waits() {
		return "w" + count
	}
	return "h" + count
}

func writeNumbers(l []int) string {
	s := ""
	for i := 0; i < len(l); i++ {
		if i > 0 {
			s += ","
		}
		s += strconv.Itoa(l[i])
	}
	return s
}

func writeValues(l []value) string {
	s := ""
	for i := 0; i < len(l); i++ {
		if i > 0 {
			s += ","
		}
		s += writeValue(l[i])
	}
	return s
}

func writeValue(v value) string {
	if v.kind == kindNil {
		return "n"
	}
	num := strconv.Itoa(v.num)
	if v.kind == kindRef {
		return "#" + num
	}
	return num
}
