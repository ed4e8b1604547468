package certain

import (
	"cmp"
	"math"
	"slices"
	"strconv"
	"strings"

	"tropica/api"
)

// part of a set: a state of the machine, and what is left of it. No limit is set to what is left, and it is not compared with Inf: it may be that number, or above it.
type part struct {
	state int
	left  int
}

// set of states, the lower ones ahead, each of them once.
type set []part

// textOf a set: two sets are the same just if their texts are.
func textOf(s set) string {
	var text strings.Builder
	for _, p := range s {
		text.WriteString(strconv.Itoa(p.state))
		text.WriteByte(':')
		text.WriteString(strconv.Itoa(p.left))
		text.WriteByte(' ')
	}
	return text.String()
}

// finalOf a set: the cheapest of its ends.
func finalOf(m api.Machine, s set) (int, api.Errno) {
	const noEnd = math.MaxInt
	final := noEnd
	for _, p := range s {
		if end := m.States[p.state].Final; end != api.Inf {
			final = min(final, p.left+end)
		}
	}
	switch {
	case final == noEnd:
		return api.Inf, api.OK
	case final > api.MaxWeight:
		return 0, api.ErrOver
	}
	return final, api.OK
}

// arcsOf a set: all that its states have, with what is left put to their Weights; in order, so that those of one pair of labels stand together, and of those that lead to one state the lightest one is the first.
func arcsOf(m api.Machine, s set) []api.Arc {
	var arcs []api.Arc
	for _, p := range s {
		for _, a := range m.States[p.state].Arcs {
			a.Weight += p.left
			arcs = append(arcs, a)
		}
	}
	slices.SortFunc(arcs, inOrder)
	return arcs
}

// inOrder: below 0, if a should stand ahead of b; above 0, if behind it.
func inOrder(a, b api.Arc) int {
	return cmp.Or(
		cmp.Compare(a.In, b.In),
		cmp.Compare(a.Out, b.Out),
		cmp.Compare(a.To, b.To),
		cmp.Compare(a.Weight, b.Weight),
	)
}

// byLabels: arcs that are in order, a list for each pair of labels.
func byLabels(arcs []api.Arc) [][]api.Arc {
	var lists [][]api.Arc
	from := 0
	for i, a := range arcs {
		if a.In != arcs[from].In || a.Out != arcs[from].Out {
			lists = append(lists, arcs[from:i])
			from = i
		}
	}
	if from < len(arcs) {
		lists = append(lists, arcs[from:])
	}
	return lists
}

// together: the arc that stands for all of these, which bear the same labels and are in order, and the set that it leads to.
func together(arcs []api.Arc) (api.Arc, set) {
	least := arcs[0].Weight
	for _, a := range arcs {
		least = min(least, a.Weight)
	}
	var to set
	for i, a := range arcs {
		if i == 0 || a.To != arcs[i-1].To {
			to = append(to, part{state: a.To, left: a.Weight - least})
		}
	}
	return api.Arc{In: arcs[0].In, Out: arcs[0].Out, Weight: least}, to
}
