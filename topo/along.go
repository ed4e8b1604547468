package topo

import "tropica/api"

// none: no way leads there, not even one without arcs.
const none = -1

// tooMany ways: what is above MaxWeight is refused, however much it is, and counting no further stays within numbers.
const tooMany = api.MaxWeight + 1

// ways: in how many ways each state is led to from Start.
func ways(m api.Machine, order []int) []int {
	counts := make([]int, len(m.States))
	if m.Start >= 0 {
		counts[m.Start] = 1
	}
	for _, q := range order {
		for _, a := range m.States[q].Arcs {
			counts[a.To] = bothWays(counts[a.To], counts[q])
		}
	}
	return counts
}

// steps: how many arcs the longest way from Start to each state has; none, if there is no way.
func steps(m api.Machine, order []int) []int {
	counts := make([]int, len(m.States))
	for q := range counts {
		counts[q] = none
	}
	if m.Start >= 0 {
		counts[m.Start] = 0
	}
	for _, q := range order {
		if counts[q] == none {
			continue
		}
		for _, a := range m.States[q].Arcs {
			counts[a.To] = longer(counts[a.To], counts[q]+1)
		}
	}
	return counts
}

// atEnds: what the counts of all states where the machine may end come to, from first on.
func atEnds(m api.Machine, counts []int, first int, join func(x, y int) int) int {
	all := first
	for q, s := range m.States {
		if s.Final != api.Inf {
			all = join(all, counts[q])
		}
	}
	return all
}

func bothWays(x, y int) int { return min(x+y, tooMany) }

func longer(x, y int) int { return max(x, y) }
