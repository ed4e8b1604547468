package stream

import (
	"slices"

	"tropica/api"
)

// marks by their states: one of each.
type marks map[int]api.Mark

// marksOf a run.
func marksOf(r api.Run) marks {
	l := marks{}
	for _, k := range r.Marks {
		l.put(k)
	}
	return l
}

// put a mark, unless there is one of its state that is as good.
func (l marks) put(k api.Mark) {
	if old, ok := l[k.State]; !ok || isBetter(k, old) {
		l[k.State] = k
	}
}

// take the best mark of all away. There is one.
func (l marks) take() api.Mark {
	var best api.Mark
	found := false
	for _, k := range l {
		// Of several that are as good, the lower state: which one it is must not hang on the map.
		if !found || isBetter(k, best) || !isBetter(best, k) && k.State < best.State {
			best, found = k, true
		}
	}
	delete(l, best.State)
	return best
}

// haveOver: one of them costs more than may be.
func (l marks) haveOver() bool {
	for _, k := range l {
		if k.Weight > api.MaxWeight {
			return true
		}
	}
	return false
}

// inOrder of their states, each with what it wrote in memory of its own.
func (l marks) inOrder(m api.Machine) []api.Mark {
	var list []api.Mark
	for q := range m.States {
		if k, ok := l[q]; ok {
			list = append(list, copied(k))
		}
	}
	return list
}

// isBetter: a is better than b, whatever their states.
func isBetter(a, b api.Mark) bool {
	switch {
	case a.Weight != b.Weight:
		return a.Weight < b.Weight
	case len(a.Out) != len(b.Out):
		return len(a.Out) < len(b.Out)
	}
	return slices.Compare(a.Out, b.Out) < 0
}

// along an arc.
func along(k api.Mark, a api.Arc) api.Mark {
	next := copied(k)
	next.State = a.To
	next.Weight += a.Weight
	if a.Out != api.Empty {
		next.Out = append(next.Out, a.Out)
	}
	return next
}

func copied(k api.Mark) api.Mark {
	k.Out = slices.Clone(k.Out)
	return k
}

// closed: where arcs lead from these marks on that read nothing, the best mark of each state. Nothing is left of open.
func closed(m api.Machine, open marks) marks {
	kept := marks{}
	for len(open) > 0 {
		// No arc makes a mark better: the best one of all can't be replaced by what comes of others.
		k := open.take()
		kept[k.State] = k
		for _, a := range m.States[k.State].Arcs {
			if _, ok := kept[a.To]; !ok && a.In == api.Empty {
				open.put(along(k, a))
			}
		}
	}
	return kept
}
