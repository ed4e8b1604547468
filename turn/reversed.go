package turn

import "tropica/api"

// No state: where a Start is none.
const none = -1

// reversed: the machine from its ends on, behind a new state 0; it may be too great.
func reversed(m api.Machine) api.Machine {
	states := make([]api.State, 1+len(m.States))
	for q := range states {
		states[q].Final = api.Inf
	}
	lead := func(from int, a api.Arc) {
		states[from].Arcs = append(states[from].Arcs, a)
	}
	for q, s := range m.States {
		number := 1 + q
		if s.Final != api.Inf {
			lead(0, api.Arc{In: api.Empty, Out: api.Empty, Weight: s.Final, To: number})
		}
		for _, a := range s.Arcs {
			from := 1 + a.To
			a.To = number
			lead(from, a)
		}
	}
	if m.Start != none {
		states[1+m.Start].Final = 0
	}
	return api.Machine{Start: 0, States: states}
}
