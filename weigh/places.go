package weigh

import (
	"container/heap"

	"tropica/api"
)

// No state: where a Start is none.
const none = -1

// place on a path: a state, and how many labels of each word are done.
type place struct {
	state   int
	read    int
	written int
}

// way to a place, and what it costs.
type way struct {
	to   place
	cost int
}

// waiting: ways to places that may not be done yet, as a heap, the cheapest one first.
type waiting []way

func (w waiting) Len() int { return len(w) }

func (w waiting) Less(i, j int) bool { return w[i].cost < w[j].cost }

func (w waiting) Swap(i, j int) { w[i], w[j] = w[j], w[i] }

func (w *waiting) Push(x any) { *w = append(*w, x.(way)) }

func (w *waiting) Pop() any {
	last := len(*w) - 1
	x := (*w)[last]
	*w = (*w)[:last]
	return x
}

// cheapest path for two words: what it costs, and whether there is one. The cost may be above MaxWeight.
func cheapest(m api.Machine, x, y []int) (int, bool) {
	done := places(m, x, y)
	least, found := 0, false
	for q, s := range m.States {
		cost, ok := done[place{state: q, read: len(x), written: len(y)}]
		if !ok || s.Final == api.Inf {
			continue
		}
		if cost += s.Final; !found || cost < least {
			least, found = cost, true
		}
	}
	return least, found
}

// places that Start leads to along two words, each with the least that the arcs to it cost.
func places(m api.Machine, x, y []int) map[place]int {
	done := map[place]int{}
	var open waiting
	if m.Start != none {
		heap.Push(&open, way{to: place{state: m.Start}})
	}
	for open.Len() > 0 {
		w := heap.Pop(&open).(way)
		// No weight is below 0, so that the way that comes first is the cheapest one.
		if _, ok := done[w.to]; ok {
			continue
		}
		done[w.to] = w.cost
		for _, a := range m.States[w.to.state].Arcs {
			if to, ok := along(w.to, a, x, y); ok {
				heap.Push(&open, way{to: to, cost: w.cost + a.Weight})
			}
		}
	}
	return done
}

// along an arc: the place it leads to, and whether it reads and writes what the words have there.
func along(p place, a api.Arc, x, y []int) (place, bool) {
	read, fitsRead := behind(x, p.read, a.In)
	written, fitsWritten := behind(y, p.written, a.Out)
	return place{state: a.To, read: read, written: written}, fitsRead && fitsWritten
}
