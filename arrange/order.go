package arrange

import (
	"cmp"
	"slices"

	"tropica/api"
)

// The numbers of an arc, by which it is ordered.
const (
	in = iota
	out
	to
	weight
)

// key: which number of an arc counts first, which next, and so on.
type key [4]int

func numbersOf(a api.Arc) [4]int {
	return [4]int{in: a.In, out: a.Out, to: a.To, weight: a.Weight}
}

// ordering makes the order that goes by a key: below 0, if a stands ahead of b; above 0, if behind it.
func ordering(k key) func(a, b api.Arc) int {
	return func(a, b api.Arc) int {
		left, right := numbersOf(a), numbersOf(b)
		for _, which := range k {
			if c := cmp.Compare(left[which], right[which]); c != 0 {
				return c
			}
		}
		return 0
	}
}

// sortedBy makes what puts a list of arcs in order, in its own place.
func sortedBy(k key) func([]api.Arc) []api.Arc {
	order := ordering(k)
	return func(arcs []api.Arc) []api.Arc {
		slices.SortFunc(arcs, order)
		return arcs
	}
}
