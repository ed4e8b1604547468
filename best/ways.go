package best

import (
	"container/heap"

	"tropica/api"
	"tropica/twin"
)

// No state: where a Start is none.
const none = -1

// way to a state: what it costs, and how many arcs it has, which counts where two cost the same.
type way struct {
	to   int
	cost api.Twin
}

// noWay costs more than all others; what is above MaxWeight costs as much.
func noWay() api.Twin { return api.Twin{A: api.Inf, B: api.Inf} }

// both, one behind the other.
func both(a, b api.Twin) api.Twin {
	c, err := twin.Times(a, b)
	if err != api.OK {
		return noWay()
	}
	return c
}

// byArc: what it costs to go along an arc.
func byArc(a api.Arc) api.Twin { return api.Twin{A: a.Weight, B: 1} }

// end of all paths: one more state, behind the machine's own ones.
func end(m api.Machine) int { return len(m.States) }

// onward: of each state, where its arcs lead, and to the end, where the machine may end.
func onward(m api.Machine) [][]way {
	steps := make([][]way, len(m.States)+1)
	for q, s := range m.States {
		for _, a := range s.Arcs {
			steps[q] = append(steps[q], way{to: a.To, cost: byArc(a)})
		}
		if s.Final != api.Inf {
			steps[q] = append(steps[q], way{to: end(m), cost: api.Twin{A: s.Final}})
		}
	}
	return steps
}

// turned: the same steps, gone from behind.
func turned(steps [][]way) [][]way {
	back := make([][]way, len(steps))
	for q, list := range steps {
		for _, w := range list {
			back[w.to] = append(back[w.to], way{to: q, cost: w.cost})
		}
	}
	return back
}

// cheapest: of each state, what the n cheapest ways to it cost, rising; of fewer ways all.
func cheapest(start int, steps [][]way, n int) [][]api.Twin {
	found := make([][]api.Twin, len(steps))
	open := waiting{{to: start}}
	for open.Len() > 0 {
		w := heap.Pop(&open).(way)
		// A way with n others ahead of it is needed for no n cheapest ones, nor is what goes on from it.
		if len(found[w.to]) == n {
			continue
		}
		found[w.to] = append(found[w.to], w.cost)
		for _, step := range steps[w.to] {
			heap.Push(&open, way{to: step.to, cost: both(w.cost, step.cost)})
		}
	}
	return found
}

// paths: what the n cheapest ones cost, rising; noWay, where that is above MaxWeight.
func paths(m api.Machine, n int) []api.Twin {
	if m.Start == none {
		return nil
	}
	return cheapest(m.Start, onward(m), n)[end(m)]
}
