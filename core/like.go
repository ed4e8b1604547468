package core

import (
	"cmp"
	"slices"

	"tropica/api"
)

// pair of labels that an arc bears.
type pair struct {
	in  int
	out int
}

func everyState(m api.Machine, holds func(api.State) bool) bool {
	for _, s := range m.States {
		if !holds(s) {
			return false
		}
	}
	return true
}

func everyArc(m api.Machine, holds func(api.Arc) bool) bool {
	return everyState(m, func(s api.State) bool {
		for _, a := range s.Arcs {
			if !holds(a) {
				return false
			}
		}
		return true
	})
}

func writesWhatItReads(a api.Arc) bool { return a.In == a.Out }

func isNotEmpty(a api.Arc) bool { return a.In != api.Empty || a.Out != api.Empty }

func costsNothing(a api.Arc) bool { return a.Weight == 0 }

func endsForNothing(s api.State) bool { return s.Final == 0 || s.Final == api.Inf }

func hasEachPairOnce(s api.State) bool {
	times := make(map[pair]int, len(s.Arcs))
	for _, a := range s.Arcs {
		p := pair{in: a.In, out: a.Out}
		times[p]++
		if times[p] > 1 {
			return false
		}
	}
	return true
}

// isInOrder: the order is a total one, so that it is enough to look at neighbours.
func isInOrder(s api.State) bool { return slices.IsSortedFunc(s.Arcs, inOrder) }

// inOrder: below 0, if a should stand ahead of b; above 0, if behind it.
func inOrder(a, b api.Arc) int {
	return cmp.Or(
		cmp.Compare(a.In, b.In),
		cmp.Compare(a.Out, b.Out),
		cmp.Compare(a.To, b.To),
		cmp.Compare(a.Weight, b.Weight),
	)
}
