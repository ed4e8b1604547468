package compose

import (
	"math"
	"slices"
	"strconv"
	"testing"

	"tropica/api"
	"tropica/core"
)

const (
	most = api.MaxWeight
	inf  = api.Inf
	top  = api.MaxLabel
)

func machine(start int, states ...api.State) api.Machine {
	return api.Machine{Start: start, States: states}
}

func state(final int, arcs ...api.Arc) api.State {
	return api.State{Final: final, Arcs: arcs}
}

func arc(in, out, weight, to int) api.Arc {
	return api.Arc{In: in, Out: out, Weight: weight, To: to}
}

func triple(a, b, f int) api.Triple { return api.Triple{A: a, B: b, F: f} }

func hop(in, out, weight int, to api.Triple) api.Hop {
	return api.Hop{In: in, Out: out, Weight: weight, To: to}
}

// one state that ends for 0 and has these arcs.
func one(arcs ...api.Arc) api.Machine { return machine(0, state(0, arcs...)) }

// chain: n states, an arc that reads and writes 1 to the next one each; the last one ends for final and has these arcs.
func chain(n, final int, last ...api.Arc) api.Machine {
	m := api.Machine{States: make([]api.State, n)}
	for q := range n - 1 {
		m.States[q] = state(inf, arc(1, 1, 1, q+1))
	}
	m.States[n-1] = state(final, last...)
	return m
}

// equal: an empty list may be nil or not.
func equal(a, b api.Machine) bool {
	return a.Start == b.Start && slices.EqualFunc(a.States, b.States, func(s, r api.State) bool {
		return s.Final == r.Final && slices.Equal(s.Arcs, r.Arcs)
	})
}

func checkExpand(t *testing.T, what string, a, b api.Machine, at api.Triple, final int, hops ...api.Hop) {
	t.Helper()
	if n, l, err := Expand(a, b, at); n != final || err != api.OK || !slices.Equal(l, hops) {
		t.Errorf("%s: %v, %v at %v is %d, %v, %v, want %d, %v", what, a, b, at, n, l, err, final, hops)
	}
}

func checkNoExpand(t *testing.T, what string, a, b api.Machine, at api.Triple, want api.Errno) {
	t.Helper()
	if n, l, err := Expand(a, b, at); n != 0 || err != want || len(l) != 0 {
		t.Errorf("%s: %v, %v at %v is %d, %v, %v, want nothing, %v", what, a, b, at, n, l, err, want)
	}
}

func checkCompose(t *testing.T, what string, a, b, want api.Machine) {
	t.Helper()
	if got, err := Compose(a, b); err != api.OK || !equal(got, want) {
		t.Errorf("%s: %v, %v composed is %v, %v, want %v", what, a, b, got, err, want)
	}
}

func checkNoCompose(t *testing.T, what string, a, b api.Machine, want api.Errno) {
	t.Helper()
	if got, err := Compose(a, b); err != want || got.Start != 0 || len(got.States) != 0 {
		t.Errorf("%s: %v, %v composed is %v, %v, want nothing, %v", what, a, b, got, err, want)
	}
}

// P16.2, P16.3: the chapter's example.
func TestExample(t *testing.T) {
	a := machine(0, state(inf, arc(1, 2, 3, 1)), state(0))
	b := machine(0, state(inf, arc(2, 3, 4, 1)), state(1))
	checkExpand(t, "example", a, b, triple(0, 0, 0), inf, hop(1, 3, 7, triple(1, 1, 0)))
	checkExpand(t, "example", a, b, triple(1, 1, 0), 1)
	checkCompose(t, "example", a, b, machine(0, state(inf, arc(1, 3, 7, 1)), state(1)))
}

// mixed: two machines whose states 0 have arcs with empty labels and others.
func mixed() (api.Machine, api.Machine) {
	a := machine(0, state(2, arc(1, 5, 1, 1), arc(2, 0, 2, 2), arc(3, 6, 3, 0), arc(0, 0, 4, 1)), state(0), state(inf))
	b := machine(0, state(3, arc(0, 7, 10, 1), arc(5, 8, 20, 2), arc(5, 0, 30, 0), arc(0, 0, 40, 2), arc(6, 9, 50, 1)), state(9), state(inf))
	return a, b
}

// P16.1, P16.2: which hops there are, and in which order, hangs on the filter.
func TestExpandByFilter(t *testing.T) {
	a, b := mixed()
	checkExpand(t, "both", a, b, triple(0, 0, 0), 5,
		hop(1, 8, 21, triple(1, 2, 0)),
		hop(1, 0, 31, triple(1, 0, 0)),
		hop(2, 7, 12, triple(2, 1, 0)),
		hop(2, 0, 42, triple(2, 2, 0)),
		hop(2, 0, 2, triple(2, 0, 1)),
		hop(3, 9, 53, triple(0, 1, 0)),
		hop(0, 7, 14, triple(1, 1, 0)),
		hop(0, 0, 44, triple(1, 2, 0)),
		hop(0, 0, 4, triple(1, 0, 1)),
		hop(0, 7, 10, triple(0, 1, 2)),
		hop(0, 0, 40, triple(0, 2, 2)))
	checkExpand(t, "the first one alone", a, b, triple(0, 0, 1), 5,
		hop(1, 8, 21, triple(1, 2, 0)),
		hop(1, 0, 31, triple(1, 0, 0)),
		hop(2, 0, 2, triple(2, 0, 1)),
		hop(3, 9, 53, triple(0, 1, 0)),
		hop(0, 0, 4, triple(1, 0, 1)))
	checkExpand(t, "the second one alone", a, b, triple(0, 0, 2), 5,
		hop(1, 8, 21, triple(1, 2, 0)),
		hop(1, 0, 31, triple(1, 0, 0)),
		hop(3, 9, 53, triple(0, 1, 0)),
		hop(0, 7, 10, triple(0, 1, 2)),
		hop(0, 0, 40, triple(0, 2, 2)))
}

// P16.2: where one of the states has no arcs, the other one goes alone or not at all.
func TestExpandBesideNoArcs(t *testing.T) {
	a, b := mixed()
	first := []api.Hop{hop(2, 0, 2, triple(2, 1, 1)), hop(0, 0, 4, triple(1, 1, 1))}
	second := []api.Hop{hop(0, 7, 10, triple(1, 1, 2)), hop(0, 0, 40, triple(1, 2, 2))}
	checkExpand(t, "b has none", a, b, triple(0, 1, 0), 11, first...)
	checkExpand(t, "b has none", a, b, triple(0, 1, 1), 11, first...)
	checkExpand(t, "b has none", a, b, triple(0, 1, 2), 11)
	checkExpand(t, "a has none", a, b, triple(1, 0, 0), 3, second...)
	checkExpand(t, "a has none", a, b, triple(1, 0, 1), 3)
	checkExpand(t, "a has none", a, b, triple(1, 0, 2), 3, second...)
	for f := range 3 {
		checkExpand(t, "both have none", a, b, triple(1, 1, f), 9)
	}
}

// P16.2: the Final is Times of both.
func TestFinals(t *testing.T) {
	for _, c := range []struct{ a, b, want int }{
		{0, 0, 0}, {2, 3, 5}, {3, 2, 5}, {most, 0, most}, {0, most, most}, {1, most - 1, most}, {most / 2, most / 2, most},
		{inf, 0, inf}, {0, inf, inf}, {inf, inf, inf}, {inf, most, inf}, {most, inf, inf}, {inf, 1, inf},
	} {
		a, b := machine(0, state(c.a)), machine(0, state(c.b))
		for f := range 3 {
			checkExpand(t, "Finals", a, b, triple(0, 0, f), c.want)
		}
		checkCompose(t, "Finals", a, b, machine(0, state(c.want)))
	}
}

// P16.2: just the labels that are the same are put together, the same arc as often as it is there.
func TestExpandByLabels(t *testing.T) {
	at, to := triple(0, 0, 0), triple(0, 0, 0)
	checkExpand(t, "the last label", one(arc(1, top, 2, 0)), one(arc(top, top-1, 3, 0)), at, 0, hop(1, top-1, 5, to))
	checkExpand(t, "next to each other", one(arc(1, 2, 2, 0), arc(1, 4, 2, 0)), one(arc(3, 3, 3, 0), arc(1, 2, 3, 0)), at, 0)
	checkExpand(t, "what a reads is not what b reads", one(arc(1, 2, 2, 0)), one(arc(1, 2, 3, 0)), at, 0)
	checkExpand(t, "1 is not empty", one(arc(1, 1, 2, 0)), one(arc(0, 1, 3, 0)), at, 0, hop(0, 1, 3, triple(0, 0, 2)))
	checkExpand(t, "0 is not 1", one(arc(1, 0, 2, 0)), one(arc(1, 1, 3, 0)), at, 0, hop(1, 0, 2, triple(0, 0, 1)))
	checkExpand(t, "alike", one(arc(1, 2, 3, 0), arc(1, 2, 3, 0)), one(arc(2, 1, 1, 0), arc(2, 1, 1, 0)), at, 0,
		hop(1, 1, 4, to), hop(1, 1, 4, to), hop(1, 1, 4, to), hop(1, 1, 4, to))
	checkExpand(t, "a's order ahead of b's", one(arc(1, 3, 0, 0), arc(2, 2, 0, 0)), one(arc(2, 9, 0, 0), arc(3, 8, 0, 0)), at, 0,
		hop(1, 8, 0, to), hop(2, 9, 0, to))
	checkExpand(t, "not by labels", one(arc(9, 3, 0, 0), arc(1, 3, 0, 0)), one(arc(3, 9, 5, 0), arc(3, 1, 0, 0)), at, 0,
		hop(9, 9, 5, to), hop(9, 1, 0, to), hop(1, 9, 5, to), hop(1, 1, 0, to))
}

// P16.2: a triple need not be one that hops lead to, nor need there be a Start.
func TestExpandWithoutStart(t *testing.T) {
	a := machine(-1, state(0), state(1, arc(1, 2, 3, 0)))
	b := machine(-1, state(0), state(0), state(4, arc(2, 1, 1, 1)))
	checkExpand(t, "no Start", a, b, triple(1, 2, 0), 5, hop(1, 1, 4, triple(0, 1, 0)))
	checkExpand(t, "no Start", a, b, triple(1, 2, 2), 5, hop(1, 1, 4, triple(0, 1, 0)))
	checkExpand(t, "no Start", a, b, triple(0, 0, 1), 0)
}

// P16.2: ErrState
func TestStatesThatAreNone(t *testing.T) {
	a, b := machine(0, state(most), state(0)), machine(0, state(most), state(0), state(0))
	for _, n := range []int{-1, -2, 3, 4, 60, 1 << 32, -1 << 32, math.MinInt, math.MaxInt} {
		checkNoExpand(t, "A", a, b, triple(n, 0, 0), api.ErrState)
		checkNoExpand(t, "B", a, b, triple(0, n, 0), api.ErrState)
		checkNoExpand(t, "F", a, b, triple(0, 0, n), api.ErrState)
		checkNoExpand(t, "all", a, b, triple(n, n, n), api.ErrState)
	}
	checkNoExpand(t, "the other one's last state", a, b, triple(2, 2, 0), api.ErrState)
	checkExpand(t, "the last states", a, b, triple(1, 2, 2), 0)
	empty := machine(-1)
	for _, at := range []api.Triple{{}, triple(-1, -1, 0), triple(-1, 0, 0), triple(0, -1, 0)} {
		checkNoExpand(t, "a has no states", empty, b, at, api.ErrState)
		checkNoExpand(t, "b has no states", a, empty, at, api.ErrState)
		checkNoExpand(t, "there are no states", empty, empty, at, api.ErrState)
	}
}

// P16.2: ErrOver, of the Final
func TestFinalsThatAreTooMuch(t *testing.T) {
	for _, c := range [][2]int{{1, most}, {most, 1}, {2, most}, {most, most}, {most/2 + 1, most / 2}} {
		a, b := machine(0, state(c[0])), machine(0, state(c[1]))
		for f := range 3 {
			checkNoExpand(t, "Finals", a, b, triple(0, 0, f), api.ErrOver)
		}
		checkNoCompose(t, "Finals", a, b, api.ErrOver)
	}
}

// P16.2: ErrOver, of a hop, wherever it stands; only of those that there are.
func TestHopsThatAreTooMuch(t *testing.T) {
	at := triple(0, 0, 0)
	for _, c := range [][2]int{{1, most}, {most, 1}, {2, most}, {most, most}, {most/2 + 1, most / 2}} {
		x, y := arc(1, 2, c[0], 0), arc(2, 1, c[1], 0)
		cheap, back := arc(1, 2, 0, 0), arc(2, 1, 0, 0)
		for _, l := range [][]api.Arc{{x}, {x, cheap}, {cheap, x}, {cheap, x, cheap}} {
			for _, r := range [][]api.Arc{{y}, {y, back}, {back, y}, {back, y, back}} {
				checkNoExpand(t, "a hop", one(l...), one(r...), at, api.ErrOver)
				checkNoCompose(t, "a hop", one(l...), one(r...), api.ErrOver)
			}
		}
		x.Out, y.In = 0, 0
		checkNoExpand(t, "empty labels together", one(x), one(y), at, api.ErrOver)
		checkExpand(t, "alone", one(x), one(y), triple(0, 0, 1), 0, hop(1, 0, c[0], triple(0, 0, 1)))
		checkExpand(t, "alone", one(x), one(y), triple(0, 0, 2), 0, hop(0, 1, c[1], triple(0, 0, 2)))
	}
	to := triple(0, 0, 0)
	checkExpand(t, "as much as may be", one(arc(1, 2, most-1, 0)), one(arc(2, 1, 1, 0)), at, 0, hop(1, 1, most, to))
	checkExpand(t, "in halves", one(arc(1, 2, most/2, 0)), one(arc(2, 1, most/2, 0)), at, 0, hop(1, 1, most, to))
	checkExpand(t, "other labels", one(arc(1, 2, most, 0)), one(arc(1, 2, most, 0)), at, 0)
}

// P16.3: the triples are numbered as hops lead to them, not as they are numbered in a or b.
func TestNumbersOfStates(t *testing.T) {
	a := machine(3,
		state(5),
		state(inf, arc(4, 4, 1, 0)),
		state(7, arc(3, 3, 1, 1), arc(5, 5, 1, 3)),
		state(inf, arc(2, 2, 1, 1), arc(1, 1, 1, 2), arc(2, 2, 2, 1)))
	b := machine(1, state(9), state(0, arc(1, 11, 0, 1), arc(2, 12, 0, 1), arc(3, 13, 0, 1), arc(4, 14, 0, 1), arc(5, 15, 0, 1)))
	checkCompose(t, "numbers", a, b, machine(0,
		state(inf, arc(2, 12, 1, 1), arc(1, 11, 1, 2), arc(2, 12, 2, 1)),
		state(inf, arc(4, 14, 1, 3)),
		state(7, arc(3, 13, 1, 1), arc(5, 15, 1, 0)),
		state(5)))
}

// P16.3: state by state, so that what one state leads to comes ahead of what the next one leads to.
func TestStateByState(t *testing.T) {
	tree := machine(0,
		state(0, arc(1, 1, 0, 1), arc(2, 1, 0, 4)),
		state(1, arc(1, 1, 0, 2), arc(2, 1, 0, 3)),
		state(2), state(3),
		state(4, arc(1, 1, 0, 5)),
		state(5))
	checkCompose(t, "a tree", tree, one(arc(1, 1, 0, 0)), machine(0,
		state(0, arc(1, 1, 0, 1), arc(2, 1, 0, 2)),
		state(1, arc(1, 1, 0, 3), arc(2, 1, 0, 4)),
		state(4, arc(1, 1, 0, 5)),
		state(2), state(3), state(5)))
}

// P16.1, P16.3: the filter's state makes another triple of the same two states.
func TestComposeWithEmptyLabels(t *testing.T) {
	checkCompose(t, "a alone", one(arc(1, 0, 2, 0)), one(), machine(0, state(0, arc(1, 0, 2, 1)), state(0, arc(1, 0, 2, 1))))
	checkCompose(t, "b alone", one(), one(arc(0, 1, 2, 0)), machine(0, state(0, arc(0, 1, 2, 1)), state(0, arc(0, 1, 2, 1))))
	checkCompose(t, "both", one(arc(1, 0, 2, 0)), one(arc(0, 1, 3, 0)), machine(0,
		state(0, arc(1, 1, 5, 0), arc(1, 0, 2, 1), arc(0, 1, 3, 2)),
		state(0, arc(1, 0, 2, 1)),
		state(0, arc(0, 1, 3, 2))))
	a := machine(0, state(inf, arc(1, 0, 1, 1)), state(inf, arc(2, 9, 2, 2)), state(0))
	b := machine(0, state(inf, arc(9, 3, 4, 1)), state(inf, arc(0, 4, 8, 2)), state(0))
	checkCompose(t, "one behind the other", a, b, machine(0,
		state(inf, arc(1, 0, 1, 1)),
		state(inf, arc(2, 3, 6, 2)),
		state(inf, arc(0, 4, 8, 3)),
		state(0)))
}

// P16.3: nothing is trimmed.
func TestNothingIsTrimmed(t *testing.T) {
	a := machine(0, state(inf, arc(1, 2, 3, 1), arc(4, 5, 6, 2)), state(inf), state(inf))
	checkCompose(t, "no ends", a, one(arc(2, 2, 0, 0)), machine(0, state(inf, arc(1, 2, 3, 1)), state(inf)))
	checkCompose(t, "no hops", a, one(arc(1, 2, 0, 0)), machine(0, state(inf)))
}

// P16.3: no Start
func TestComposeWithoutStart(t *testing.T) {
	with := one(arc(1, 2, most, 0), arc(1, 0, most, 0))
	without := machine(-1, state(most, arc(2, 1, most, 0), arc(0, 1, most, 0)))
	dear := machine(0, state(most, arc(1, 2, most, 0)))
	for _, c := range [][2]api.Machine{
		{without, with}, {with, without}, {without, without}, {dear, without}, {without, dear},
		{machine(-1), with}, {with, machine(-1)}, {machine(-1), machine(-1)}, {without, machine(-1)},
		{api.Machine{Start: -1, States: []api.State{}}, with},
	} {
		checkCompose(t, "no Start", c[0], c[1], machine(-1))
	}
}

// P16.3: what Expand refuses, if hops lead there.
func TestComposeTooMuch(t *testing.T) {
	checkNoCompose(t, "the last state's Final", chain(60, most), machine(0, state(1, arc(1, 1, 0, 0))), api.ErrOver)
	checkNoCompose(t, "the last state's hop", chain(60, 0, arc(1, 1, most, 0)), one(arc(1, 1, 1, 0)), api.ErrOver)
	loop := one(arc(1, 1, 0, 0))
	apart := machine(0, state(0, arc(1, 1, 0, 0)), state(most, arc(1, 1, most, 1)))
	checkCompose(t, "hops don't lead there", apart, machine(0, state(1, arc(1, 1, 1, 0))), machine(0, state(1, arc(1, 1, 1, 0))))
	checkCompose(t, "other labels", apart, loop, loop)
	checkCompose(t, "other states together", machine(0, state(0, arc(1, 1, 0, 1)), state(most)), machine(0, state(most, arc(1, 1, 0, 1)), state(0)),
		machine(0, state(most, arc(1, 1, 0, 1)), state(most)))
}

// loops: n arcs to the state 0.
func loops(n, in, out, weight int) []api.Arc {
	return slices.Repeat([]api.Arc{arc(in, out, weight, 0)}, n)
}

// P16.3: ErrFull, of states
func TestTooManyStates(t *testing.T) {
	loop := one(arc(1, 1, 0, 0))
	for _, n := range []int{1, 2, 59, api.MaxStates} {
		checkCompose(t, strconv.Itoa(n)+" states", chain(n, 7), loop, chain(n, 7))
		checkCompose(t, strconv.Itoa(n)+" states", loop, chain(n, 7), chain(n, 7))
	}
	last := api.MaxStates - 1
	fits := chain(api.MaxStates, 7, arc(2, 0, 5, last))
	fits.States[last-1] = state(7, arc(2, 0, 5, last))
	checkCompose(t, "as many as may be, by the filter", chain(api.MaxStates-1, 7, arc(2, 0, 5, last-1)), loop, fits)
	checkNoCompose(t, "one too many, by the filter", chain(api.MaxStates, 7, arc(2, 0, 5, last)), loop, api.ErrFull)
	checkNoCompose(t, "one too many, by the filter", loop, chain(api.MaxStates, 7, arc(0, 2, 5, last)), api.ErrFull)
	checkNoCompose(t, "far too many", grid(30), grid(30), api.ErrFull)
}

// grid: n states in a ring, each with arcs of two labels.
func grid(n int) api.Machine {
	m := api.Machine{States: make([]api.State, n)}
	for q := range n {
		m.States[q] = state(0, arc(1, 1, 0, (q+1)%n), arc(0, 0, 0, (q+1)%n))
	}
	return m
}

// P16.3: ErrFull, of arcs
func TestTooManyArcs(t *testing.T) {
	a, b := one(loops(20, 1, 2, 1)...), one(loops(20, 2, 1, 2)...)
	checkCompose(t, "as many as may be", a, b, one(loops(api.MaxArcs, 1, 1, 3)...))
	more := func(m api.Machine, in, out int) api.Machine {
		return one(append(slices.Clone(m.States[0].Arcs), arc(in, out, 0, 0))...)
	}
	checkCompose(t, "one more that nobody reads", more(a, 1, 3), more(b, 4, 1), one(loops(api.MaxArcs, 1, 1, 3)...))
	checkNoCompose(t, "one too many", more(a, 1, 3), more(b, 3, 1), api.ErrFull)
	checkNoCompose(t, "one too many, a alone", more(a, 1, 0), b, api.ErrFull)
	checkNoCompose(t, "one too many, b alone", a, more(b, 0, 1), api.ErrFull)
	checkNoCompose(t, "far too many", one(loops(api.MaxArcs, 1, 2, 1)...), one(loops(api.MaxArcs, 2, 1, 1)...), api.ErrFull)
	two := machine(0, state(0, append(loops(9, 1, 2, 1), arc(1, 2, 1, 1))...), state(0, loops(10, 1, 2, 1)...))
	twenty := slices.Repeat([]api.Arc{arc(1, 1, 3, 1)}, 20)
	checkCompose(t, "in two states, as many as may be", two, b, machine(0, state(0, append(loops(180, 1, 1, 3), twenty...)...), state(0, loops(200, 1, 1, 3)...)))
	two.States[1].Arcs = append(two.States[1].Arcs, arc(1, 2, 1, 1))
	checkNoCompose(t, "in two states, too many", two, b, api.ErrFull)
}

// P16.3: a state is refused before its hops are looked at, but behind those of the states ahead of it.
func TestWhichErrorComesFirst(t *testing.T) {
	full := loops(21, 1, 2, 1)
	b := machine(0, state(1, loops(20, 2, 1, 2)...))
	checkNoCompose(t, "too many arcs", machine(0, state(0, full...)), b, api.ErrFull)
	checkNoCompose(t, "the Final of the same state", machine(0, state(most, full...)), b, api.ErrOver)
	checkNoCompose(t, "the last hop of the same state", machine(0, state(0, append(full, arc(1, 2, most-1, 0))...)), b, api.ErrOver)
	next := machine(0, state(0, append([]api.Arc{arc(1, 2, 0, 1)}, full...)...), state(most))
	checkNoCompose(t, "the next state comes behind", next, b, api.ErrFull)
	ahead := machine(1, state(0, full...), state(most, arc(1, 2, 0, 0)))
	checkNoCompose(t, "the state ahead comes first", ahead, b, api.ErrOver)
	loop := machine(0, state(1, arc(1, 1, 0, 0)))
	alone := arc(1, 0, 0, api.MaxStates-1)
	checkNoCompose(t, "too many states", chain(api.MaxStates, 0, alone), loop, api.ErrFull)
	checkNoCompose(t, "too many states, the Final of the same state", chain(api.MaxStates, most, alone), loop, api.ErrOver)
	fork := chain(api.MaxStates, most)
	fork.States[58].Arcs = append(fork.States[58].Arcs, arc(1, 0, 0, 58))
	checkNoCompose(t, "too many states, the next one's Final", fork, loop, api.ErrFull)
	fork.States[58].Arcs = fork.States[58].Arcs[:1]
	checkNoCompose(t, "not too many, the next one's Final", fork, loop, api.ErrOver)
}

func wrongMachines() []api.Machine {
	l := []api.Machine{{}, {Start: 1}, {Start: -2}, machine(1, state(0)),
		chain(api.MaxStates+1, 0),
		one(loops(api.MaxArcs+1, 1, 1, 0)...),
		machine(-1, state(0, loops(200, 1, 1, 0)...), state(0, loops(201, 1, 1, 0)...))}
	for _, n := range []int{math.MinInt, math.MaxInt, -2, inf + 1} {
		l = append(l, machine(n, state(0)), machine(0, state(n)), machine(0, state(0), state(n)),
			one(arc(n, 0, 0, 0)), one(arc(0, n, 0, 0)), one(arc(0, 0, n, 0)), one(arc(0, 0, 0, n)))
	}
	return append(l, machine(0, state(-1)), one(arc(top+1, 0, 0, 0)), one(arc(0, top+1, 0, 0)),
		one(arc(0, 0, inf, 0)), one(arc(0, 0, 0, 1)), one(arc(0, 0, 0, -1)), machine(-1, state(0, arc(0, 0, 0, 1))))
}

// P4.1: a machine that is not right is refused, ahead of all else, the first one first.
func TestMachinesThatAreNotRight(t *testing.T) {
	right := []api.Machine{machine(-1), machine(-1, state(0)), one(), machine(0, state(most, arc(1, 1, most, 0))), one(loops(api.MaxArcs, 1, 1, 0)...)}
	at := []api.Triple{{}, triple(0, 0, 2), triple(-1, 0, 0), triple(0, 9, 0), triple(0, 0, 3)}
	for _, m := range wrongMachines() {
		want := core.Check(m)
		if want == api.OK {
			t.Errorf("%v is right", m)
		}
		for _, r := range right {
			checkNoCompose(t, "a is not right", m, r, want)
			checkNoCompose(t, "b is not right", r, m, want)
			for _, x := range at {
				checkNoExpand(t, "a is not right", m, r, x, want)
				checkNoExpand(t, "b is not right", r, m, x, want)
			}
		}
		for _, other := range wrongMachines() {
			checkNoCompose(t, "both are not right", m, other, want)
			checkNoExpand(t, "both are not right", m, other, api.Triple{}, want)
		}
	}
}
