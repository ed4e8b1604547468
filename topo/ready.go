package topo

import (
	"container/heap"

	"tropica/api"
)

// ready: states to which no arc leads from one that is not told yet, as a heap, the lowest number first.
type ready []int

func (r ready) Len() int { return len(r) }

func (r ready) Less(i, j int) bool { return r[i] < r[j] }

func (r ready) Swap(i, j int) { r[i], r[j] = r[j], r[i] }

func (r *ready) Push(q any) { *r = append(*r, q.(int)) }

func (r *ready) Pop() any {
	last := len(*r) - 1
	q := (*r)[last]
	*r = (*r)[:last]
	return q
}

// told: the states in their order; those of a cycle, and those behind it, are never ready, and missing.
func told(m api.Machine) []int {
	open := leadingTo(m)
	var waiting ready
	for q, n := range open {
		if n == 0 {
			heap.Push(&waiting, q)
		}
	}
	var order []int
	for waiting.Len() > 0 {
		q := heap.Pop(&waiting).(int)
		order = append(order, q)
		for _, a := range m.States[q].Arcs {
			open[a.To]--
			if open[a.To] == 0 {
				heap.Push(&waiting, a.To)
			}
		}
	}
	return order
}

// leadingTo: how many arcs lead to each state.
func leadingTo(m api.Machine) []int {
	counts := make([]int, len(m.States))
	for _, s := range m.States {
		for _, a := range s.Arcs {
			counts[a.To]++
		}
	}
	return counts
}
