package least

import (
	"slices"

	"tropica/api"
)

// joiner of states that are alike.
type joiner struct {
	kinds   []int // of each state
	numbers []int // of each kind its new number, none where no arc led to it yet
	first   []int // of each new number the state that arcs led to first; any other one of its kind would do as well
}

// joined: states of one kind become one; they are numbered as arcs lead to them from Start on.
func joined(m api.Machine, kinds []int) api.Machine {
	j := joiner{kinds: kinds, numbers: slices.Repeat([]int{none}, len(kinds))}
	j.numberOf(m.Start)
	var states []api.State
	// While states are added, there come to be more numbers.
	for n := 0; n < len(j.first); n++ {
		s := m.States[j.first[n]]
		states = append(states, api.State{Final: s.Final, Arcs: j.led(s.Arcs)})
	}
	return api.Machine{Start: 0, States: states}
}

// numberOf the kind of a state; one that is new gets the next number.
func (j *joiner) numberOf(state int) int {
	kind := j.kinds[state]
	if j.numbers[kind] == none {
		j.numbers[kind] = len(j.first)
		j.first = append(j.first, state)
	}
	return j.numbers[kind]
}

// led: the arcs, led to the new numbers, in a list of their own.
func (j *joiner) led(arcs []api.Arc) []api.Arc {
	list := make([]api.Arc, len(arcs))
	for i, a := range arcs {
		a.To = j.numberOf(a.To)
		list[i] = a
	}
	return list
}
