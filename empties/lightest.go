package empties

import "tropica/api"

// alike: In, Out and To of an arc. Arcs that share them are alike.
type alike [3]int

// lightest: of arcs that are alike only the lightest one.
type lightest struct {
	arcs   []api.Arc
	places map[alike]int
}

func newLightest() *lightest { return &lightest{places: map[alike]int{}} }

// add an arc, unless there is one that is alike and no heavier.
func (l *lightest) add(a api.Arc) {
	key := alike{a.In, a.Out, a.To}
	place, ok := l.places[key]
	if !ok {
		l.places[key] = len(l.arcs)
		l.arcs = append(l.arcs, a)
		return
	}
	l.arcs[place].Weight = min(l.arcs[place].Weight, a.Weight)
}

// isOver: whether one costs too much.
func (l *lightest) isOver() bool {
	for _, a := range l.arcs {
		if a.Weight > api.MaxWeight {
			return true
		}
	}
	return false
}
