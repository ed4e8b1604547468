package certain

import (
	"math"
	"slices"
	"testing"

	"tropica/api"
	"tropica/core"
	"tropica/empties"
	"tropica/rational"
)

const (
	most = api.MaxWeight
	inf  = api.Inf
	top  = api.MaxLabel
)

func machine(start int, states ...api.State) api.Machine {
	return api.Machine{Start: start, States: states}
}

func state(final int, arcs ...api.Arc) api.State {
	return api.State{Final: final, Arcs: arcs}
}

func arc(in, out, weight, to int) api.Arc {
	return api.Arc{In: in, Out: out, Weight: weight, To: to}
}

// by: an arc that reads and writes one label.
func by(label, weight, to int) api.Arc { return arc(label, label, weight, to) }

// chain: n states, an arc by 1 to the next one each; the last one ends for final and has these arcs.
func chain(n, final int, last ...api.Arc) api.Machine {
	m := api.Machine{States: make([]api.State, n)}
	for q := range n - 1 {
		m.States[q] = state(inf, by(1, 1, q+1))
	}
	m.States[n-1] = state(final, last...)
	return m
}

// spread: so many arcs to one state, no two of them of the same labels, in order.
func spread(n, to int) []api.Arc {
	l := make([]api.Arc, n)
	for i := range l {
		l[i] = arc(1+i, 7, i, to)
	}
	return l
}

// equal: an empty list may be nil or not.
func equal(a, b api.Machine) bool {
	return a.Start == b.Start && slices.EqualFunc(a.States, b.States, func(s, r api.State) bool {
		return s.Final == r.Final && slices.Equal(s.Arcs, r.Arcs)
	})
}

func checkMade(t *testing.T, what string, m, want api.Machine) {
	t.Helper()
	if got, err := Make(m); err != api.OK || !equal(got, want) {
		t.Errorf("%s: %v became %v, %v, want %v", what, m, got, err, want)
	}
}

func checkRefused(t *testing.T, what string, m api.Machine, want api.Errno) {
	t.Helper()
	if got, err := Make(m); err != want || got.Start != 0 || len(got.States) != 0 {
		t.Errorf("%s: %v became %v, %v, want nothing, %v", what, m, got, err, want)
	}
}

type example struct {
	what    string
	m, want api.Machine
}

func checkAll(t *testing.T, l []example) {
	t.Helper()
	for _, c := range l {
		checkMade(t, c.what, c.m, c.want)
	}
}

// P17.1: the chapter's example. The Final and the arc by 2 tell what is left.
func TestExample(t *testing.T) {
	checkMade(t, "example",
		machine(0, state(inf, by(1, 2, 1), by(1, 5, 2)), state(4, by(2, 0, 1)), state(0, by(3, 0, 2))),
		machine(0, state(inf, by(1, 2, 1)), state(3, by(2, 0, 2), by(3, 3, 3)), state(4, by(2, 0, 2)), state(0, by(3, 0, 3))))
}

// P17.1: the example of the whole: a star without its empty arcs.
func TestStar(t *testing.T) {
	star, err := rational.Star(machine(0, state(inf, arc(1, 2, 3, 1)), state(0)))
	if err != api.OK {
		t.Fatal(err)
	}
	full, err := empties.Remove(star)
	if err != api.OK {
		t.Fatal(err)
	}
	x := arc(1, 2, 3, 1)
	checkMade(t, "star", full, machine(0, state(0, x), state(0, x)))
}

// P17.1: machines that are certain, of which only the numbers and the order of arcs change, and what can't be reached goes.
func TestCertainOnes(t *testing.T) {
	x, y := arc(1, 2, 3, 1), arc(2, 1, 4, 0)
	checkAll(t, []example{
		{"one state", machine(0, state(5)), machine(0, state(5))},
		{"no arcs, not nil", machine(0, state(5, []api.Arc{}...)), machine(0, state(5))},
		{"one state that can't end", machine(0, state(inf)), machine(0, state(inf))},
		{"one state that ends for the most", machine(0, state(most)), machine(0, state(most))},
		{"two states", machine(0, state(0, x), state(1, y)), machine(0, state(0, x), state(1, y))},
		{"Start is the last one", machine(1, state(0, x), state(1, y)), machine(0, state(1, arc(2, 1, 4, 1)), state(0, arc(1, 2, 3, 0)))},
		{"Start can't be reached", machine(1, state(0, arc(1, 2, 3, 0)), state(1, y)), machine(0, state(1, arc(2, 1, 4, 1)), state(0, arc(1, 2, 3, 1)))},
		{"it reads nothing", machine(0, state(0, arc(0, 1, 2, 0))), machine(0, state(0, arc(0, 1, 2, 0)))},
		{"it writes nothing", machine(0, state(0, arc(1, 0, 2, 0))), machine(0, state(0, arc(1, 0, 2, 0)))},
		{"the highest arc", machine(0, state(0, by(top, most, 0))), machine(0, state(0, by(top, most, 0)))},
		{"what can't be reached", machine(0, state(0), state(1, x)), machine(0, state(0))},
		{"what leads nowhere stays", machine(0, state(0, x), state(inf)), machine(0, state(0, x), state(inf))},
		{"states that are alike stay", machine(0, state(0, x, arc(2, 2, 0, 2)), state(0), state(0)), machine(0, state(0, x, arc(2, 2, 0, 2)), state(0), state(0))},
		{"as many states as may be", chain(api.MaxStates, 7), chain(api.MaxStates, 7)},
		{"as many arcs as may be", machine(0, state(0, spread(400, 0)...)), machine(0, state(0, spread(400, 0)...))},
	})
}

// P17.1: arcs stand by In, then by Out, as numbers; only those of the same In and Out become one.
func TestPairsOfLabels(t *testing.T) {
	a, b, c, d := arc(0, 2, 9, 0), arc(1, 0, 8, 0), arc(1, 1, 7, 0), arc(2, 0, 6, 0)
	checkAll(t, []example{
		{"the other way round", machine(0, state(0, d, c, b, a)), machine(0, state(0, a, b, c, d))},
		{"as numbers", machine(0, state(0, arc(10, 1, 1, 0), arc(9, 10, 2, 0), arc(9, 9, 3, 0))), machine(0, state(0, arc(9, 9, 3, 0), arc(9, 10, 2, 0), arc(10, 1, 1, 0)))},
		{"the same twice", machine(0, state(0, a, a, d, a)), machine(0, state(0, a, d))},
		{"another weight", machine(0, state(0, arc(1, 2, 5, 0), arc(1, 2, 3, 0), arc(1, 2, 4, 0))), machine(0, state(0, arc(1, 2, 3, 0)))},
		{"labels the other way round", machine(0, state(0, arc(2, 1, 5, 0), arc(1, 2, 3, 0))), machine(0, state(0, arc(1, 2, 3, 0), arc(2, 1, 5, 0)))},
		{"the same In", machine(0, state(0, arc(1, 2, 5, 0), arc(1, 3, 3, 0))), machine(0, state(0, arc(1, 2, 5, 0), arc(1, 3, 3, 0)))},
		{"the same Out", machine(0, state(0, arc(1, 2, 5, 0), arc(3, 2, 3, 0))), machine(0, state(0, arc(1, 2, 5, 0), arc(3, 2, 3, 0)))},
		{"the last labels", machine(0, state(0, by(top, 5, 0), arc(top, top-1, 3, 0), arc(top-1, top, 4, 0))), machine(0, state(0, arc(top-1, top, 4, 0), arc(top, top-1, 3, 0), by(top, 5, 0)))},
		{"not by To", machine(0, state(0, by(1, 0, 2), by(2, 0, 1)), state(1), state(2)), machine(0, state(0, by(1, 0, 1), by(2, 0, 2)), state(2), state(1))},
		{"those of several states", machine(0, state(0, by(1, 0, 1), by(1, 0, 2)), state(1, by(4, 0, 0), by(2, 0, 0)), state(2, by(3, 0, 0), by(1, 0, 0))),
			machine(0, state(0, by(1, 0, 1)), state(1, by(1, 0, 0), by(2, 0, 0), by(3, 0, 0), by(4, 0, 0)))},
	})
}

// told: a machine whose arc by 1 leads to a set of the states 1, 2 and so on; each of these has an arc to itself by its own label (its number and 10), which tells what is left.
func told(n int, first ...api.Arc) api.Machine {
	m := machine(0, state(inf, first...))
	for q := range n {
		m.States = append(m.States, state(inf, by(11+q, 0, 1+q)))
	}
	return m
}

// P17.1: what an arc costs, and what is left behind it.
func TestWhatIsLeft(t *testing.T) {
	for _, c := range []struct {
		what   string
		first  []api.Arc
		weight int
		left   map[int]int
	}{
		{"one", []api.Arc{by(1, 5, 2)}, 5, map[int]int{2: 0}},
		{"the same", []api.Arc{by(1, 5, 1), by(1, 5, 2)}, 5, map[int]int{1: 0, 2: 0}},
		{"the first is less", []api.Arc{by(1, 2, 1), by(1, 5, 2)}, 2, map[int]int{1: 0, 2: 3}},
		{"the last is less", []api.Arc{by(1, 5, 1), by(1, 2, 3)}, 2, map[int]int{1: 3, 3: 0}},
		{"the one between is less", []api.Arc{by(1, 9, 1), by(1, 2, 2), by(1, 4, 3)}, 2, map[int]int{1: 7, 2: 0, 3: 2}},
		{"two to one state, the first is less", []api.Arc{by(1, 2, 1), by(1, 5, 1), by(1, 4, 2)}, 2, map[int]int{1: 0, 2: 2}},
		{"two to one state, the last is less", []api.Arc{by(1, 5, 1), by(1, 4, 2), by(1, 2, 1)}, 2, map[int]int{1: 0, 2: 2}},
		{"two to one state, neither is the least", []api.Arc{by(1, 9, 1), by(1, 3, 1), by(1, 2, 2)}, 2, map[int]int{1: 1, 2: 0}},
		{"for nothing", []api.Arc{by(1, 0, 1), by(1, 0, 2), by(1, 7, 3)}, 0, map[int]int{1: 0, 2: 0, 3: 7}},
		{"as much as may be", []api.Arc{by(1, 0, 1), by(1, most, 2)}, 0, map[int]int{1: 0, 2: most}},
		{"as much as may be, all of them", []api.Arc{by(1, most, 1), by(1, most, 2)}, most, map[int]int{1: 0, 2: 0}},
		{"other labels between", []api.Arc{by(1, 4, 2), by(2, 0, 1), by(1, 3, 1)}, 3, map[int]int{1: 0, 2: 1}},
	} {
		got, err := Make(told(3, c.first...))
		if err != api.OK || len(got.States) < 2 {
			t.Errorf("%s: %v, %v", c.what, got, err)
			continue
		}
		left := map[int]int{}
		for _, a := range got.States[1].Arcs {
			left[a.In-10] = a.Weight
		}
		if x := got.States[0].Arcs[0]; x != by(1, c.weight, 1) || len(left) != len(c.left) {
			t.Errorf("%s: %v, left %v, want the weight %d, left %v", c.what, got, left, c.weight, c.left)
		}
		for q, n := range c.left {
			if left[q] != n {
				t.Errorf("%s: left %v, want %v", c.what, left, c.left)
			}
		}
	}
}

// P17.1: what is left counts for the next arc, and what is left behind it.
func TestLeftGoesOn(t *testing.T) {
	m := machine(0,
		state(inf, by(1, 2, 1), by(1, 5, 2)),
		state(inf, by(2, 9, 3)),
		state(inf, by(2, 1, 4), by(3, 4, 4)),
		state(0), state(8))
	checkMade(t, "the other one catches up", m, machine(0,
		state(inf, by(1, 2, 1)),
		state(inf, by(2, 4, 2), by(3, 7, 3)),
		state(5), state(8)))
	meet := machine(0, state(inf, by(1, 0, 1), by(1, 3, 2)), state(inf, by(2, 5, 3)), state(inf, by(2, 1, 3)), state(6))
	checkMade(t, "both meet", meet, machine(0, state(inf, by(1, 0, 1)), state(inf, by(2, 4, 2)), state(6)))
	meet.States[2].Arcs[0].Weight = 4
	checkMade(t, "both meet, the dearer one is dearer", meet, machine(0, state(inf, by(1, 0, 1)), state(inf, by(2, 5, 2)), state(6)))
}

// P17.1: two sets are the same just if they have the same states with the same numbers left.
func TestSameSets(t *testing.T) {
	two := func(first ...api.Arc) api.Machine {
		return machine(0, state(inf, first...), state(0), state(1), state(2))
	}
	same := two(by(1, 2, 1), by(1, 5, 2), by(2, 9, 2), by(2, 6, 1))
	checkMade(t, "the same, for another weight", same, machine(0, state(inf, by(1, 2, 1), by(2, 6, 1)), state(0)))
	for what, m := range map[string]api.Machine{
		"another number left": two(by(1, 2, 1), by(1, 5, 2), by(2, 2, 1), by(2, 6, 2)),
		"nothing left":        two(by(1, 2, 1), by(1, 5, 2), by(2, 2, 1), by(2, 2, 2)),
		"one more":            two(by(1, 2, 1), by(1, 5, 2), by(2, 2, 1), by(2, 5, 2), by(2, 9, 3)),
		"one less":            two(by(1, 2, 1), by(1, 5, 2), by(2, 2, 1)),
		"the other one":       two(by(1, 2, 1), by(1, 5, 2), by(2, 2, 1), by(2, 5, 3)),
	} {
		checkMade(t, what, m, machine(0, state(inf, by(1, 2, 1), by(2, 2, 2)), state(0), state(0)))
	}
	checkMade(t, "left the other way round", two(by(1, 2, 1), by(1, 5, 2), by(2, 5, 1), by(2, 2, 2)),
		machine(0, state(inf, by(1, 2, 1), by(2, 2, 2)), state(0), state(1)))
	checkMade(t, "Start with another one", machine(0, state(5, by(1, 2, 0), by(1, 2, 1)), state(3)),
		machine(0, state(5, by(1, 2, 1)), state(3, by(1, 2, 1))))
	checkMade(t, "Start with nothing left", machine(0, state(5, by(1, 2, 0), by(1, 3, 0))), machine(0, state(5, by(1, 2, 0))))
}

// P17.1: sets whose digits are the same, one behind the other.
func TestSetsOfTheSameDigits(t *testing.T) {
	wide := func(first ...api.Arc) api.Machine {
		m := machine(0, state(inf, first...))
		for range 30 {
			m.States = append(m.States, state(0))
		}
		return m
	}
	for what, m := range map[string]api.Machine{
		"1 with 0 left, 12 with 3 left, or 2 with 23":       wide(by(1, 0, 1), by(1, 3, 12), by(2, 0, 1), by(2, 23, 2)),
		"1 with 0, 2 with 3, 4 with 5, or 23 with 45":       wide(by(1, 0, 1), by(1, 3, 2), by(1, 5, 4), by(2, 0, 1), by(2, 45, 23)),
		"1 with 0, 2 with 11, 3 with 1, or 2 with 1, 13":    wide(by(1, 0, 1), by(1, 11, 2), by(1, 1, 3), by(2, 0, 1), by(2, 1, 2), by(2, 1, 13)),
		"1 with 0, 11 with 1, or 1 with 1, 1 is not twice":  wide(by(1, 0, 1), by(1, 1, 11), by(2, 0, 11), by(2, 1, 1)),
		"1 with 0, 2 with 10, or 1 with 0, 21 with 0 alone": wide(by(1, 0, 1), by(1, 10, 2), by(2, 0, 1), by(2, 0, 21)),
	} {
		checkMade(t, what, m, machine(0, state(inf, by(1, 0, 1), by(2, 0, 2)), state(0), state(0)))
	}
}

// P17.1: sets are numbered as arcs lead to them, set by set, pair by pair.
func TestNumbersOfSets(t *testing.T) {
	checkAll(t, []example{
		{"by labels, not by the order of arcs", machine(0, state(0, by(3, 0, 1), by(2, 0, 2), by(1, 0, 3)), state(1), state(2), state(3)),
			machine(0, state(0, by(1, 0, 1), by(2, 0, 2), by(3, 0, 3)), state(3), state(2), state(1))},
		{"set by set", machine(0, state(0, by(1, 0, 1), by(2, 0, 4)), state(1, by(1, 0, 2), by(2, 0, 3)), state(2), state(3), state(4, by(1, 0, 5)), state(5)),
			machine(0, state(0, by(1, 0, 1), by(2, 0, 2)), state(1, by(1, 0, 3), by(2, 0, 4)), state(4, by(1, 0, 5)), state(2), state(3), state(5))},
		{"one that is there already", machine(3, state(5), state(inf, by(4, 1, 0)), state(7, by(3, 1, 1), by(5, 1, 3)), state(inf, by(2, 1, 1), by(1, 1, 2))),
			machine(0, state(inf, by(1, 1, 1), by(2, 1, 2)), state(7, by(3, 1, 2), by(5, 1, 0)), state(inf, by(4, 1, 3)), state(5))},
		{"a set and its parts", machine(0, state(0, by(1, 0, 1), by(1, 0, 2), by(2, 0, 2), by(3, 0, 1)), state(1), state(2)),
			machine(0, state(0, by(1, 0, 1), by(2, 0, 2), by(3, 0, 3)), state(1), state(2), state(1))},
	})
}

// P17.1: a set's Final.
func TestFinals(t *testing.T) {
	for _, c := range []struct {
		what        string
		left        int
		first, last int
		want        int
	}{
		{"the first one's", 3, 2, 0, 2},
		{"the last one's, with what is left", 3, 4, 0, 3},
		{"the same", 3, 3, 0, 3},
		{"nothing left", 0, 5, 4, 4},
		{"only the first one ends", 0, 5, inf, 5},
		{"only the last one ends", 3, inf, 5, 8},
		{"neither ends", 3, inf, inf, inf},
		{"neither ends, as much left as may be", most, inf, inf, inf},
		{"for nothing", 0, 0, 0, 0},
		{"as much as may be", 0, most, inf, most},
		{"as much as may be is left", most, inf, 0, most},
		{"as much as may be, together", 1, inf, most - 1, most},
		{"too much, but the first one's is less", most, most, most, most},
		{"too much, but the first one's is far less", 1, 0, most, 0},
		{"not too much, since it can't end", most, most, inf, most},
	} {
		m := machine(0, state(inf, by(1, 0, 1), by(1, c.left, 2)), state(c.first), state(c.last))
		checkMade(t, c.what, m, machine(0, state(inf, by(1, 0, 1)), state(c.want)))
		m.States[0].Arcs = []api.Arc{by(1, 0, 1), by(1, c.left, 2), by(1, most, 3)}
		m.States = append(m.States, state(inf))
		checkMade(t, c.what+", of three", m, machine(0, state(inf, by(1, 0, 1)), state(c.want)))
	}
}

// P17.1: no Start
func TestWithoutStart(t *testing.T) {
	for _, m := range []api.Machine{
		machine(-1), {Start: -1, States: []api.State{}}, machine(-1, state(0)), machine(-1, state(most, by(1, most, 0), by(1, 0, 0))),
		machine(-1, chain(api.MaxStates, 0).States...), machine(-1, state(0, spread(400, 0)...)),
		machine(-1, growing(0, 0).States...),
	} {
		checkMade(t, "no Start", m, machine(-1))
	}
}

// P17.1: ErrEmpty, wherever the arc is; ahead of all but what P4.1 says.
func TestEmptyArcs(t *testing.T) {
	over := machine(0, state(inf, by(1, 1, 1), by(1, 0, 2)), state(most), state(inf))
	full := growing(0, 0)
	checkRefused(t, "over alone", over, api.ErrOver)
	checkRefused(t, "full alone", full, api.ErrFull)
	for _, m := range []api.Machine{machine(0, state(0)), machine(0, state(0, by(1, 1, 0)), state(0, by(1, 1, 1))), over, full} {
		for _, empty := range []api.Arc{{}, {Weight: 5}, {Weight: most}, {To: len(m.States) - 1}} {
			for q := range m.States {
				with := copied(m)
				with.States[q].Arcs = append(with.States[q].Arcs, empty)
				for start := -1; start < len(m.States); start++ {
					with.Start = start
					checkRefused(t, "empty, the last arc", with, api.ErrEmpty)
				}
				with.Start = 0
				slices.Reverse(with.States[q].Arcs)
				checkRefused(t, "empty, the first arc", with, api.ErrEmpty)
			}
		}
	}
	checkMade(t, "empty on one side", machine(0, state(0, arc(1, 0, 2, 0), arc(0, 1, 3, 0))), machine(0, state(0, arc(0, 1, 3, 0), arc(1, 0, 2, 0))))
}

// P17.1: ErrOver, of a Final
func TestFinalsThatAreTooMuch(t *testing.T) {
	for _, c := range []struct{ left, first, last int }{
		{1, inf, most}, {most, inf, 1}, {2, inf, most}, {most, inf, most}, {most/2 + 1, inf, most / 2}, {3, inf, most - 2},
	} {
		m := machine(0, state(inf, by(1, 0, 1), by(1, c.left, 2)), state(c.first), state(c.last))
		checkRefused(t, "a Final", m, api.ErrOver)
		m.States[0].Arcs = append(m.States[0].Arcs, by(1, most, 3))
		m.States = append(m.States, state(most))
		checkRefused(t, "the least of two that are too much", m, api.ErrOver)
		m.States[3].Final = 0
		checkMade(t, "as much as may be", m, machine(0, state(inf, by(1, 0, 1)), state(most)))
	}
	apart := machine(0, state(0), state(inf, by(1, 0, 0), by(1, 1, 2)), state(most))
	checkMade(t, "no arc leads there", apart, machine(0, state(0)))
}

// P17.1: ErrOver, of an arc
func TestWeightsThatAreTooMuch(t *testing.T) {
	for _, c := range [][2]int{{1, most}, {most, 1}, {2, most}, {most, most}, {most/2 + 1, most / 2}, {3, most - 2}} {
		m := machine(0, state(0, by(1, 0, 1), by(1, c[0], 2)), state(0), state(0, by(2, c[1], 3)), state(0), state(0))
		checkRefused(t, "an arc", m, api.ErrOver)
		m.States[2].Arcs = []api.Arc{by(1, 0, 3), by(2, c[1], 3), by(3, 0, 3)}
		checkRefused(t, "the arc between", m, api.ErrOver)
		m.States[2].Arcs = []api.Arc{by(2, c[1], 3), by(2, most, 4)}
		checkRefused(t, "the least of two that are too much", m, api.ErrOver)
		m.States[1].Arcs = []api.Arc{by(2, most, 3)}
		checkMade(t, "another one is less", m, machine(0, state(0, by(1, 0, 1)), state(0, by(2, most, 2)), state(0)))
		m.Start = 3
		checkMade(t, "no arc leads there", m, machine(0, state(0)))
	}
	checkMade(t, "as much as may be", machine(0, state(0, by(1, 0, 1), by(1, 1, 2)), state(0), state(0, by(2, most-1, 1))),
		machine(0, state(0, by(1, 0, 1)), state(0, by(2, most, 2)), state(0)))
	checkRefused(t, "an arc that leads nowhere", machine(0, state(0, by(1, 0, 1), by(1, 1, 2)), state(0), state(inf, by(2, most, 3)), state(inf)), api.ErrOver)
}

// dear: by 1 it goes on n times, first for nothing, and beside that for the most each time, so that very much is left; at last by 2 both meet again, unless only the dear one goes on.
func dear(n, cheapest int) api.Machine {
	m := machine(0, state(inf, by(1, 0, 1), by(1, most, n+1)))
	for q := 1; q < n; q++ {
		m.States = append(m.States, state(inf, by(1, 0, q+1)))
	}
	m.States = append(m.States, state(inf, by(2, cheapest, n)))
	for q := n + 1; q < 2*n; q++ {
		m.States = append(m.States, state(inf, by(1, most, q+1)))
	}
	m.States = append(m.States, state(inf, by(2, 0, n)))
	return m
}

// P17.1: what is left may be above MaxWeight, and be the number of Inf.
func TestMuchIsLeft(t *testing.T) {
	for _, n := range []int{1, 2, 3, 5, 29} {
		want := chain(n+1, inf, by(2, 7, n+1))
		for q := range n {
			want.States[q].Arcs[0].Weight = 0
		}
		want.States = append(want.States, state(inf, by(2, 7, n+1)))
		checkMade(t, "both meet", dear(n, 7), want)
		only := dear(n, 7)
		only.States[n].Arcs = nil
		if n > 1 {
			checkRefused(t, "only the dear one goes on", only, api.ErrOver)
		}
		ends := dear(n, 7)
		ends.States[2*n].Final = 1
		checkRefused(t, "only the dear one ends", ends, api.ErrOver)
		ends.States[n].Final = most
		want.States[n].Final = most
		want.States[n+1].Final = most
		checkMade(t, "both end", ends, want)
	}
	number := machine(0, state(inf, by(1, 0, 1), by(1, most, 2)), state(inf, by(1, 0, 3)), state(inf, by(1, 1, 4)), state(inf), state(inf))
	checkMade(t, "the number of Inf is left", number, machine(0, state(inf, by(1, 0, 1)), state(inf, by(1, 0, 2)), state(inf)))
	number.States[4].Final = 0
	checkRefused(t, "the number of Inf is no Inf", number, api.ErrOver)
}

// growing: behind each arc by 1 one more is left, so that there are more and more sets; both of their states end for so much.
func growing(cheap, dear int) api.Machine {
	return machine(0, state(inf, by(1, 0, 1), by(1, 1, 2)), state(cheap, by(1, 0, 1)), state(dear, by(1, 1, 2)))
}

// P17.1: ErrFull, of sets
func TestTooManySets(t *testing.T) {
	checkRefused(t, "more and more sets", growing(0, 0), api.ErrFull)
	last := api.MaxStates - 1
	fits := chain(last, 7, by(2, 0, last-1), by(2, 1, last-2))
	want := chain(last, 7, by(2, 0, last))
	want.States = append(want.States, state(7, by(1, 2, last-1), by(2, 0, last)))
	checkMade(t, "as many as may be", fits, want)
	fits.States[last-1].Arcs = append(fits.States[last-1].Arcs, by(3, 0, last-1), by(3, 2, last-2))
	checkRefused(t, "one too many", fits, api.ErrFull)
	checkMade(t, "states that no arc leads to", machine(last, chain(api.MaxStates, 7).States...), machine(0, state(7)))
	many := machine(0, state(0))
	for q := 1; q < api.MaxStates; q++ {
		many.States[0].Arcs = append(many.States[0].Arcs, by(q, 0, q))
		many.States = append(many.States, state(q))
	}
	checkMade(t, "as many as may be, of one set", many, many)
	many.States[0].Arcs = append(many.States[0].Arcs, by(api.MaxStates, 0, 1), by(api.MaxStates, 0, 2))
	checkRefused(t, "one too many, of one set", many, api.ErrFull)
}

// doubled: 2 arcs of the state 0 to the sets of 1, and of 1 and 2; each set has these arcs of 1, all to 0, and the second one those of 2, too.
func doubled(first, second []api.Arc) api.Machine {
	return machine(0, state(0, by(1, 0, 1), by(2, 0, 1), by(2, 1, 2)), state(0, first...), state(0, second...))
}

// P17.1: ErrFull, of arcs
func TestTooManyArcs(t *testing.T) {
	n := (api.MaxArcs - 2) / 2
	m := doubled(spread(n, 0), nil)
	want := machine(0, state(0, by(1, 0, 1), by(2, 0, 2)), state(0, spread(n, 0)...), state(0, spread(n, 0)...))
	checkMade(t, "as many as may be", m, want)
	m.States[2].Arcs = []api.Arc{arc(1, 7, 5, 0), arc(2, 7, 5, 0)}
	checkMade(t, "as many as may be, some of them twice", m, want)
	for _, more := range []api.Arc{arc(1, 6, 0, 0), arc(1, 8, 0, 0), arc(top, top, 0, 0)} {
		m.States[2].Arcs = []api.Arc{more}
		checkRefused(t, "one too many", m, api.ErrFull)
	}
	checkRefused(t, "two too many", doubled(spread(n+1, 0), nil), api.ErrFull)
	checkRefused(t, "far too many", doubled(spread(397, 0), nil), api.ErrFull)
	checkMade(t, "many arcs of one pair of labels", machine(0, state(0, slices.Repeat([]api.Arc{by(1, 2, 0)}, 400)...)), machine(0, state(0, by(1, 2, 0))))
}

// P17.1: set by set, the Final first, then arc by arc; of one arc ErrOver comes ahead of ErrFull.
func TestWhichErrorComesFirst(t *testing.T) {
	n := (api.MaxArcs - 2) / 2
	last := func(arcs ...api.Arc) api.Machine { return doubled(spread(n, 0), arcs) }
	checkRefused(t, "one arc over and full", last(by(top, most, 0)), api.ErrOver)
	checkRefused(t, "full by an arc, over by the next one", last(by(top-1, 0, 0), by(top, most, 0)), api.ErrFull)
	checkRefused(t, "over by an arc, full by the next one", last(arc(1, 6, most, 0), by(top, 0, 0)), api.ErrOver)
	checkRefused(t, "over by an arc that labels bring ahead", last(by(top, 0, 0), arc(1, 6, most, 0)), api.ErrOver)
	m := last(by(top, 0, 0))
	m.States[1].Final, m.States[2].Final = inf, most
	checkRefused(t, "over by the Final of the set that is full", m, api.ErrOver)

	// The set with the number n has n left: just the last one that may be is over, or the next one would be.
	end := most - api.MaxStates
	checkRefused(t, "over by the last set's Final, full by its arc", growing(inf, end+2), api.ErrOver)
	checkRefused(t, "full by the last set's arc, over by the next one's Final", growing(inf, end+1), api.ErrFull)
}

// fork: the state 0 has arcs by 1, and by the labels full and over, to sets that are told by these words.
func fork(full, over int) api.Machine {
	return machine(0, state(0, by(1, 0, 1), by(full, 0, 1), by(full, 1, 2), by(over, 0, 2), by(over, 1, 3)),
		state(0, spread((api.MaxArcs-2)/2, 0)...), state(inf), state(most))
}

// P17.1: what is refused of a set comes ahead of what is refused of those behind it.
func TestSetBySet(t *testing.T) {
	checkRefused(t, "full, then over", fork(2, 3), api.ErrFull)
	checkRefused(t, "over, then full", fork(3, 2), api.ErrOver)
}

func wrongMachines() []api.Machine {
	l := []api.Machine{{}, {Start: 1}, {Start: -2}, machine(1, state(0)),
		chain(api.MaxStates+1, 0), machine(-1, chain(api.MaxStates+1, 0).States...),
		machine(0, state(0, spread(api.MaxArcs+1, 0)...)),
		machine(0, state(0, slices.Repeat([]api.Arc{{}}, api.MaxArcs+1)...)),
		machine(-1, state(0, spread(200, 0)...), state(0, spread(201, 0)...))}
	for _, n := range []int{math.MinInt, math.MaxInt, -2, inf + 1} {
		l = append(l, machine(n, state(0)), machine(0, state(n)), machine(0, state(0), state(n)),
			machine(0, state(0, arc(n, 0, 0, 0))), machine(0, state(0, arc(0, n, 0, 0))),
			machine(0, state(0, arc(0, 0, n, 0))), machine(0, state(0, arc(0, 0, 0, n))),
			machine(-1, state(0, by(1, n, 0))), machine(0, state(0, by(1, 0, n))))
	}
	return append(l, machine(0, state(-1)), machine(0, state(0, arc(top+1, 0, 0, 0))), machine(0, state(0, arc(0, top+1, 0, 0))),
		machine(0, state(0, by(1, inf, 0))), machine(0, state(0, by(1, 0, 1))), machine(0, state(0, by(1, 0, -1))),
		machine(0, state(0), state(0, by(1, inf, 0), api.Arc{})), machine(-1, state(0, api.Arc{To: 1})))
}

// P4.1: a machine that is not right is refused, ahead of all else.
func TestMachinesThatAreNotRight(t *testing.T) {
	for _, m := range wrongMachines() {
		want := core.Check(m)
		if want == api.OK {
			t.Errorf("%v is right", m)
		}
		checkRefused(t, "not right", m, want)
	}
}
