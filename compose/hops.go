package compose

import (
	"tropica/api"
	"tropica/weight"
)

// The filter's states: who went along the last arc. Behind one that went alone the other one may not go alone, nor both together by empty labels, so that of all ways to mix these just one is left.
const (
	both   = 0
	first  = 1
	second = 2
)

func isFilter(f int) bool { return f == both || f == first || f == second }

// expanded: the Final and the hops of a triple that is one of these machines'.
func expanded(a, b api.Machine, t api.Triple) (int, []api.Hop, api.Errno) {
	final, err := weight.Times(a.States[t.A].Final, b.States[t.B].Final)
	if err != api.OK {
		return 0, nil, err
	}
	var hops []api.Hop
	together(a, b, t, func(x, y api.Arc, f int) {
		cost, over := weight.Times(x.Weight, y.Weight)
		if over != api.OK {
			err = over
			return
		}
		hops = append(hops, api.Hop{In: x.In, Out: y.Out, Weight: cost, To: api.Triple{A: x.To, B: y.To, F: f}})
	})
	if err != api.OK {
		return 0, nil, err
	}
	return final, hops, api.OK
}

// together tells which two arcs make a hop, in the order of the hops, and the filter's state behind them. Who does not go along stays by an empty arc for nothing, so that all hops are made in one way.
func together(a, b api.Machine, t api.Triple, tell func(x, y api.Arc, f int)) {
	stayA, stayB := api.Arc{To: t.A}, api.Arc{To: t.B}
	for _, x := range a.States[t.A].Arcs {
		for _, y := range b.States[t.B].Arcs {
			if y.In == x.Out && (x.Out != api.Empty || t.F == both) {
				tell(x, y, both)
			}
		}
		if x.Out == api.Empty && t.F != second {
			tell(x, stayB, first)
		}
	}
	for _, y := range b.States[t.B].Arcs {
		if y.In == api.Empty && t.F != first {
			tell(stayA, y, second)
		}
	}
}
