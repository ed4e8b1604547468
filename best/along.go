package best

import "tropica/api"

// toEnd: of each state, what is left to the end at least; noWay, where it can't end from there.
func toEnd(m api.Machine) []api.Twin {
	left := make([]api.Twin, len(m.States))
	found := cheapest(end(m), turned(onward(m)), 1)
	for q := range left {
		left[q] = noWay()
		if len(found[q]) > 0 {
			left[q] = found[q][0]
		}
	}
	return left
}

// along the best path: its arcs, in each state the first one behind which no more is left than has to be. There is such a path.
func along(m api.Machine, left []api.Twin) []int {
	var arcs []int
	q := m.Start
on:
	for {
		for place, a := range m.States[q].Arcs {
			if both(byArc(a), left[a.To]) == left[q] {
				arcs = append(arcs, place)
				// One arc less is left from there, so that this comes to an end.
				q = a.To
				continue on
			}
		}
		return arcs
	}
}

// walk along arcs: what was read and written, and what it cost, which may be above MaxWeight.
type walk struct {
	read    []int
	written []int
	cost    int
}

// followed: the walk from Start along arcs to an end, and whether there is one.
func followed(m api.Machine, arcs []int) (walk, bool) {
	if m.Start == none {
		return walk{}, false
	}
	var w walk
	s := m.States[m.Start]
	for _, place := range arcs {
		if place < 0 || place >= len(s.Arcs) {
			return walk{}, false
		}
		a := s.Arcs[place]
		w.read, w.written = behind(w.read, a.In), behind(w.written, a.Out)
		w.cost += a.Weight
		s = m.States[a.To]
	}
	w.cost += s.Final
	return w, s.Final != api.Inf
}

// behind a word one more label, if it is one.
func behind(word []int, label int) []int {
	if label == api.Empty {
		return word
	}
	return append(word, label)
}
