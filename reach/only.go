package reach

import "tropica/api"

// none: the number of a state that is not there.
const none = -1

// numbered: the new number of each state of which both hold, and none of the others.
func numbered(ahead, back []bool) []int {
	numbers := make([]int, len(ahead))
	next := 0
	for q := range numbers {
		numbers[q] = none
		if ahead[q] && back[q] {
			numbers[q] = next
			next++
		}
	}
	return numbers
}

// only the states that have a new number, and what leads from one to another of them.
func only(m api.Machine, numbers []int) api.Machine {
	left := api.Machine{Start: none}
	for q, s := range m.States {
		if numbers[q] == none {
			continue
		}
		left.States = append(left.States, api.State{Final: s.Final, Arcs: redirected(s.Arcs, numbers)})
		if q == m.Start {
			left.Start = numbers[q]
		}
	}
	return left
}

// redirected: the arcs that lead to states with a new number, led there, in a list of their own.
func redirected(arcs []api.Arc, numbers []int) []api.Arc {
	var list []api.Arc
	for _, a := range arcs {
		if numbers[a.To] == none {
			continue
		}
		a.To = numbers[a.To]
		list = append(list, a)
	}
	return list
}
