package empties

import (
	"math"

	"tropica/api"
)

// No hop. It is not Inf, which a hop may well be above; and two of it can be put together.
const apart = math.MaxInt / 2

func isEmpty(a api.Arc) bool { return a.In == api.Empty && a.Out == api.Empty }

// hopsOf each state to each: what empty arcs cost together at least.
func hopsOf(m api.Machine) [][]int {
	hops := make([][]int, len(m.States))
	for q, s := range m.States {
		hops[q] = firstHops(q, s, len(m.States))
	}
	for by := range hops {
		for q := range hops {
			shorten(hops[q], hops[by], hops[q][by])
		}
	}
	return hops
}

// firstHops of a state: to itself, and along one empty arc.
func firstHops(q int, s api.State, states int) []int {
	hops := make([]int, states)
	for p := range hops {
		hops[p] = apart
	}
	hops[q] = 0
	for _, a := range s.Arcs {
		if isEmpty(a) {
			hops[a.To] = min(hops[a.To], a.Weight)
		}
	}
	return hops
}

// shorten hops where those of another state cost less, with the hop to it ahead of them.
func shorten(hops, others []int, ahead int) {
	for p := range hops {
		hops[p] = min(hops[p], ahead+others[p])
	}
}
