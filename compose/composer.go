package compose

import "tropica/api"

// composer of a machine whose states are triples.
type composer struct {
	numbers map[api.Triple]int
	triples []api.Triple
	states  []api.State
	arcs    int
}

// begin with one triple, which is the state 0.
func (c *composer) begin(t api.Triple) {
	c.numbers = map[api.Triple]int{}
	c.numberOf(t)
}

// numberOf a triple; one that is new gets the next number.
func (c *composer) numberOf(t api.Triple) int {
	n, ok := c.numbers[t]
	if !ok {
		n = len(c.triples)
		c.numbers[t] = n
		c.triples = append(c.triples, t)
	}
	return n
}

// add the next state, with an arc for each hop.
func (c *composer) add(final int, hops []api.Hop) api.Errno {
	s := api.State{Final: final}
	for _, h := range hops {
		s.Arcs = append(s.Arcs, api.Arc{In: h.In, Out: h.Out, Weight: h.Weight, To: c.numberOf(h.To)})
		c.arcs++
		if c.isFull() {
			return api.ErrFull
		}
	}
	c.states = append(c.states, s)
	return api.OK
}

// isFull: triples that are numbered count as states, though they are not expanded yet.
func (c *composer) isFull() bool {
	return c.arcs > api.MaxArcs || len(c.triples) > api.MaxStates
}
