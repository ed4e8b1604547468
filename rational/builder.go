package rational

import (
	"tropica/api"
	"tropica/core"
)

// No state: where a Start is none.
const none = -1

// builder of a machine out of machines that are right.
type builder struct {
	api.Machine
}

// begin with a new state 0, which is Start.
func (b *builder) begin(final int) {
	b.Start = 0
	b.States = []api.State{{Final: final}}
}

// add the states of m behind those that are there; it tells which number m's Start has now, or none.
func (b *builder) add(m api.Machine) int {
	shift := len(b.States)
	for _, s := range m.States {
		b.States = append(b.States, api.State{Final: s.Final, Arcs: shifted(s.Arcs, shift)})
	}
	if m.Start == none {
		return none
	}
	return m.Start + shift
}

// shifted: the same arcs, in memory of their own, to states that stand so much further behind.
func shifted(arcs []api.Arc, shift int) []api.Arc {
	var list []api.Arc
	for _, a := range arcs {
		a.To += shift
		list = append(list, a)
	}
	return list
}

// link one state to another by an empty arc, if there is another.
func (b *builder) link(from, to, weight int) {
	if to == none {
		return
	}
	a := api.Arc{In: api.Empty, Out: api.Empty, Weight: weight, To: to}
	b.States[from].Arcs = append(b.States[from].Arcs, a)
}

// leadOn makes of the ends among the states from first on, up to the one ahead of behind, arcs to one state.
func (b *builder) leadOn(first, behind, to int) {
	for q := first; q < behind; q++ {
		if final := b.States[q].Final; final != api.Inf {
			b.link(q, to, final)
			b.States[q].Final = api.Inf
		}
	}
}

// built: the machine, if it is not too great.
func (b *builder) built() (api.Machine, api.Errno) {
	// All numbers come from machines that are right, so that nothing but its size can be wrong.
	if core.Check(b.Machine) != api.OK {
		return api.Machine{}, api.ErrFull
	}
	return b.Machine, api.OK
}
