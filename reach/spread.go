package reach

import "tropica/api"

// spread: of each of n states, whether it is one of the first ones, or is led to from there; leads tells what a state leads to.
func spread(n int, first []int, leads func(q int) []int) []bool {
	found := make([]bool, n)
	waiting := first
	for len(waiting) > 0 {
		q := waiting[len(waiting)-1]
		waiting = waiting[:len(waiting)-1]
		if !found[q] {
			found[q] = true
			waiting = append(waiting, leads(q)...)
		}
	}
	return found
}

func starts(m api.Machine) []int {
	if m.Start < 0 {
		return nil
	}
	return []int{m.Start}
}

func ends(m api.Machine) []int {
	var list []int
	for q, s := range m.States {
		if s.Final != api.Inf {
			list = append(list, q)
		}
	}
	return list
}

// followed makes what tells where the arcs of a state lead.
func followed(m api.Machine) func(q int) []int {
	return func(q int) []int {
		var list []int
		for _, a := range m.States[q].Arcs {
			list = append(list, a.To)
		}
		return list
	}
}

// followedBack makes what tells from where arcs lead to a state.
func followedBack(m api.Machine) func(q int) []int {
	from := make([][]int, len(m.States))
	for q, s := range m.States {
		for _, a := range s.Arcs {
			from[a.To] = append(from[a.To], q)
		}
	}
	return func(q int) []int { return from[q] }
}
