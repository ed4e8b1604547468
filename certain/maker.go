package certain

import "tropica/api"

// maker of a machine whose states are sets.
type maker struct {
	numbers map[string]int // by the texts of sets, since sets are lists
	sets    []set
	states  []api.State
	arcs    int
}

// begin with one set, which is the state 0.
func (k *maker) begin(s set) {
	k.numbers = map[string]int{}
	k.numberOf(s)
}

// numberOf a set; one that is new gets the next number.
func (k *maker) numberOf(s set) int {
	text := textOf(s)
	n, ok := k.numbers[text]
	if !ok {
		n = len(k.sets)
		k.numbers[text] = n
		k.sets = append(k.sets, s)
	}
	return n
}

// add the next state, with an arc for each pair of labels. What is refused first is told, so that all is looked at arc by arc.
func (k *maker) add(m api.Machine, s set) api.Errno {
	final, err := finalOf(m, s)
	if err != api.OK {
		return err
	}
	made := api.State{Final: final}
	for _, alike := range byLabels(arcsOf(m, s)) {
		a, to := together(alike)
		if a.Weight > api.MaxWeight {
			return api.ErrOver
		}
		a.To = k.numberOf(to)
		made.Arcs = append(made.Arcs, a)
		k.arcs++
		if k.isFull() {
			return api.ErrFull
		}
	}
	k.states = append(k.states, made)
	return api.OK
}

// isFull: sets that are numbered count as states, though they are not added yet.
func (k *maker) isFull() bool {
	return k.arcs > api.MaxArcs || len(k.sets) > api.MaxStates
}
