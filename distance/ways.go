package distance

import (
	"container/heap"

	"tropica/api"
)

// No state: where a Start is none.
const none = -1

// way to a state, and what it costs.
type way struct {
	to   int
	cost int
}

// starts: where all paths begin, for nothing.
func starts(m api.Machine) []way {
	if m.Start == none {
		return nil
	}
	return []way{{to: m.Start}}
}

// ends: where paths end, for what that costs.
func ends(m api.Machine) []way {
	var list []way
	for q, s := range m.States {
		if s.Final != api.Inf {
			list = append(list, way{to: q, cost: s.Final})
		}
	}
	return list
}

// onward: of each state, where its arcs lead.
func onward(m api.Machine) [][]way {
	steps := make([][]way, len(m.States))
	for q, s := range m.States {
		for _, a := range s.Arcs {
			steps[q] = append(steps[q], way{to: a.To, cost: a.Weight})
		}
	}
	return steps
}

// backward: of each state, from where arcs lead to it.
func backward(m api.Machine) [][]way {
	steps := make([][]way, len(m.States))
	for q, s := range m.States {
		for _, a := range s.Arcs {
			steps[a.To] = append(steps[a.To], way{to: q, cost: a.Weight})
		}
	}
	return steps
}

// least that a way to each state costs, which is one of the first ones and then goes by steps; Inf where there is none.
func least(first []way, steps [][]way) ([]int, api.Errno) {
	costs := make([]int, len(steps))
	for q := range costs {
		costs[q] = api.Inf
	}
	done := make([]bool, len(steps))
	var open waiting
	put := func(list []way, ahead int) {
		for _, w := range list {
			if !done[w.to] {
				heap.Push(&open, way{to: w.to, cost: ahead + w.cost})
			}
		}
	}
	put(first, 0)
	for open.Len() > 0 {
		w := heap.Pop(&open).(way)
		// No weight is below 0, so that the way that comes first is the cheapest one.
		if done[w.to] {
			continue
		}
		// MaxWeight and 1 is the number of Inf, so that it is not enough to look at the costs at the end.
		if w.cost > api.MaxWeight {
			return nil, api.ErrOver
		}
		costs[w.to], done[w.to] = w.cost, true
		put(steps[w.to], w.cost)
	}
	return costs, api.OK
}
