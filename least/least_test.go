package least

import (
	"math"
	"slices"
	"testing"

	"tropica/api"
	"tropica/certain"
	"tropica/core"
	"tropica/empties"
	"tropica/push"
	"tropica/rational"
)

const (
	most = api.MaxWeight
	inf  = api.Inf
	top  = api.MaxLabel
)

func machine(start int, states ...api.State) api.Machine {
	return api.Machine{Start: start, States: states}
}

func state(final int, arcs ...api.Arc) api.State {
	return api.State{Final: final, Arcs: arcs}
}

func arc(in, out, weight, to int) api.Arc {
	return api.Arc{In: in, Out: out, Weight: weight, To: to}
}

// by: an arc that reads and writes one label.
func by(label, weight, to int) api.Arc { return arc(label, label, weight, to) }

// chain: n states, an arc by 1 of this weight to the next one each; the last one ends for final.
func chain(n, weight, final int) api.Machine {
	m := api.Machine{States: make([]api.State, n)}
	for q := range n - 1 {
		m.States[q] = state(inf, by(1, weight, q+1))
	}
	m.States[n-1] = state(final)
	return m
}

// ring: an arc by 1 for nothing from each state to the next one, from the last one to the first; they end for these.
func ring(n int, final func(q int) int) api.Machine {
	m := api.Machine{States: make([]api.State, n)}
	for q := range n {
		m.States[q] = state(final(q), by(1, 0, (q+1)%n))
	}
	return m
}

// spread: so many arcs to one state, no two of them of the same labels, in order.
func spread(n, to int) []api.Arc {
	l := make([]api.Arc, n)
	for i := range l {
		l[i] = arc(1+i, 7, i, to)
	}
	return l
}

// equal: an empty list may be nil or not.
func equal(a, b api.Machine) bool {
	return a.Start == b.Start && slices.EqualFunc(a.States, b.States, func(s, r api.State) bool {
		return s.Final == r.Final && slices.Equal(s.Arcs, r.Arcs)
	})
}

func checkMade(t *testing.T, what string, m, want api.Machine, wantTotal int) {
	t.Helper()
	if got, total, err := Make(m); err != api.OK || total != wantTotal || !equal(got, want) {
		t.Errorf("%s: %v became %v, %d, %v, want %v, %d", what, m, got, total, err, want, wantTotal)
	}
}

func checkRefused(t *testing.T, what string, m api.Machine, want api.Errno) {
	t.Helper()
	if got, total, err := Make(m); err != want || total != 0 || got.Start != 0 || len(got.States) != 0 {
		t.Errorf("%s: %v became %v, %d, %v, want nothing, %v", what, m, got, total, err, want)
	}
}

type example struct {
	what    string
	m, want api.Machine
	total   int
}

func checkAll(t *testing.T, l []example) {
	t.Helper()
	for _, c := range l {
		checkMade(t, c.what, c.m, c.want, c.total)
	}
}

// P18.1: the chapter's example.
func TestExample(t *testing.T) {
	checkMade(t, "example", machine(0, state(inf, by(1, 0, 1), by(2, 0, 2)), state(0), state(0)),
		machine(0, state(inf, by(1, 0, 1), by(2, 0, 1)), state(0)), 0)
}

// P18.1: the example of the whole: a star without its empty arcs, made certain.
func TestStar(t *testing.T) {
	m := machine(0, state(inf, arc(1, 2, 3, 1)), state(0))
	for _, do := range []func(api.Machine) (api.Machine, api.Errno){rational.Star, empties.Remove, certain.Make} {
		made, err := do(m)
		if err != api.OK {
			t.Fatal(err)
		}
		m = made
	}
	if len(m.States) != 2 {
		t.Errorf("the star has %d states, want 2 that are alike", len(m.States))
	}
	checkMade(t, "star", m, machine(0, state(0, arc(1, 2, 3, 0))), 0)
}

// P18.1: nothing to join.
func TestMachinesThatAreSmall(t *testing.T) {
	sixty := func(q int) int { return []int{0, inf}[min(q, 1)] }
	checkAll(t, []example{
		{"one state", machine(0, state(0)), machine(0, state(0)), 0},
		{"no arcs, not nil", machine(0, state(0, []api.Arc{}...)), machine(0, state(0)), 0},
		{"one state that ends for the most", machine(0, state(most)), machine(0, state(0)), most},
		{"an arc to itself", machine(0, state(5, by(1, 4, 0))), machine(0, state(0, by(1, 4, 0))), 5},
		{"the highest arc", machine(0, state(0, by(top, most, 0))), machine(0, state(0, by(top, most, 0))), 0},
		{"it reads nothing", machine(0, state(0, arc(0, 1, 2, 0))), machine(0, state(0, arc(0, 1, 2, 0))), 0},
		{"it writes nothing", machine(0, state(0, arc(1, 0, 2, 0))), machine(0, state(0, arc(1, 0, 2, 0))), 0},
		{"a chain", chain(3, 2, 4), chain(3, 0, 0), 8},
		{"as many states as may be, in a chain", chain(60, 2, 4), chain(60, 0, 0), 122},
		{"as many states as may be, in a ring", ring(60, sixty), ring(60, sixty), 0},
		{"as many arcs as may be", machine(0, state(0, spread(400, 0)...)), machine(0, state(0, spread(400, 0)...)), 0},
	})
}

// both: a machine whose arcs by 1 and 2 lead to two states that have these Finals and arcs.
func both(first, second api.State, others ...api.State) api.Machine {
	return machine(0, append([]api.State{state(inf, by(1, 0, 1), by(2, 0, 2)), first, second}, others...)...)
}

// P18.1: states whose Finals and arcs are the same.
func TestStatesThatBecomeOne(t *testing.T) {
	one := func(s api.State, others ...api.State) api.Machine {
		return machine(0, append([]api.State{state(inf, by(1, 0, 1), by(2, 0, 1)), s}, others...)...)
	}
	x, y, z := arc(3, 4, 5, 0), arc(4, 3, 6, 0), arc(4, 4, 0, 0)
	checkAll(t, []example{
		{"the same arcs", both(state(0, x, y), state(0, x, y)), one(state(0, x, y)), 0},
		{"the same arcs, in another order", both(state(0, x, y, z), state(0, z, x, y)), one(state(0, x, y, z)), 0},
		{"arcs to states that become one", both(state(0, by(3, 1, 3)), state(0, by(3, 1, 4)), state(0, x), state(0, x)), one(state(0, by(3, 1, 2)), state(0, x)), 0},
		{"arcs to each other", both(state(0, by(3, 1, 2)), state(0, by(3, 1, 1))), one(state(0, by(3, 1, 1))), 0},
		{"arcs to themselves", both(state(0, by(3, 1, 1)), state(0, by(3, 1, 2))), one(state(0, by(3, 1, 1))), 0},
		{"arcs to one of both", both(state(0, by(3, 1, 1)), state(0, by(3, 1, 1))), one(state(0, by(3, 1, 1))), 0},
		{"neither ends itself", both(state(inf, by(3, 0, 3)), state(inf, by(3, 0, 3)), state(0, x)), one(state(inf, by(3, 0, 2)), state(0, x)), 0},
		{"not one behind the other", machine(0, state(0, by(1, 0, 1)), state(inf, by(1, 0, 2)), state(0, by(1, 0, 3)), state(inf, by(1, 0, 0))),
			machine(0, state(0, by(1, 0, 1)), state(inf, by(1, 0, 0))), 0},
		{"Start and another one", machine(1, state(0, by(1, 3, 1)), state(0, by(1, 3, 0))), machine(0, state(0, by(1, 3, 0))), 0},
		{"all of them", ring(60, func(int) int { return 0 }), machine(0, state(0, by(1, 0, 0))), 0},
		{"each sixth one", ring(60, func(q int) int { return []int{inf, 0}[min(q%6, 1)] }), ring(6, func(q int) int { return []int{inf, 0}[min(q, 1)] }), 0},
	})
}

// P18.1: whatever differs, here or behind arcs of the same labels, tells states apart.
func TestStatesThatStayApart(t *testing.T) {
	x := arc(3, 4, 5, 0)
	for what, pair := range map[string][2]api.State{
		"the Final":          {state(0, arc(3, 4, 0, 3)), state(1, arc(3, 4, 0, 3))},
		"one ends":           {state(0, arc(3, 4, 0, 3)), state(inf, arc(3, 4, 0, 3))},
		"one has no arcs":    {state(0), state(0, x)},
		"one more, behind":   {state(0, x), state(0, x, arc(3, 5, 0, 0))},
		"one more, ahead":    {state(0, x), state(0, arc(3, 3, 0, 0), x)},
		"In":                 {state(0, x), state(0, arc(2, 4, 5, 0))},
		"Out":                {state(0, x), state(0, arc(3, 3, 5, 0))},
		"the Weight":         {state(0, x), state(0, arc(3, 4, 4, 0))},
		"To":                 {state(0, x), state(0, arc(3, 4, 5, 3))},
		"To, of two":         {state(0, by(1, 1, 0), by(2, 1, 3)), state(0, by(1, 1, 3), by(2, 1, 0))},
		"itself or another":  {state(0, by(1, 1, 1)), state(0, by(1, 1, 3))},
		"In and Out swapped": {state(0, arc(3, 4, 5, 0)), state(0, arc(4, 3, 5, 0))},
		"digits, In and Out": {state(0, arc(12, 3, 5, 0)), state(0, arc(1, 23, 5, 0))},
		"digits, the Weight": {state(0, arc(3, 45, 6, 0)), state(0, arc(3, 4, 56, 0))},
		"digits, To":         {state(0, arc(3, 4, 50, 0)), state(0, arc(3, 4, 5, 0))},
		"reads nothing":      {state(0, arc(0, 3, 5, 0)), state(0, arc(3, 0, 5, 0))},
	} {
		m := both(pair[0], pair[1], state(0, by(9, 9, 3)))
		got, _, err := Make(m)
		if err != api.OK || len(got.States) < 3 || got.States[0].Arcs[0].To == got.States[0].Arcs[1].To {
			t.Errorf("%s: %v became %v, %v", what, m, got, err)
		}
		// The same, told only behind a way of ten arcs from each.
		far := machine(0, state(inf, by(1, 0, 1), by(2, 0, 11)))
		for q := 1; q < 21; q++ {
			far.States = append(far.States, state(inf, by(1, 0, q+1)))
		}
		far.States[10].Arcs[0].To, far.States[20].Arcs[0].To = 22, 23
		far.States = append(far.States, state(0, by(9, 9, 21)))
		for _, s := range pair {
			s.Arcs = slices.Clone(s.Arcs)
			for i, a := range s.Arcs {
				s.Arcs[i].To = []int{0, 22, 23, 21}[a.To]
			}
			far.States = append(far.States, s)
		}
		if got, _, err := Make(far); err != api.OK || len(got.States) < 23 {
			t.Errorf("%s, far away: %v became %v, %v", what, far, got, err)
		}
	}
}

// P18.1: states that are alike only when the machine is pushed; and the total.
func TestPushed(t *testing.T) {
	joined := machine(0, state(inf, by(1, 0, 1), by(2, 0, 1)), state(0))
	checkAll(t, []example{
		{"the Final or the arc", machine(0, state(inf, by(1, 2, 1), by(2, 4, 2)), state(3), state(1)), joined, 5},
		{"one of them costs more", machine(0, state(inf, by(1, 2, 1), by(2, 4, 2)), state(3), state(8)),
			machine(0, state(inf, by(1, 0, 1), by(2, 7, 1)), state(0)), 5},
		{"as much as may be", machine(0, state(inf, by(1, most, 1), by(2, 0, 2)), state(0), state(most)), joined, most},
		{"arcs behind", machine(0, state(inf, by(1, 0, 1), by(2, 0, 2)), state(inf, by(3, 1, 3)), state(inf, by(3, 8, 4)), state(9), state(2)),
			machine(0, state(inf, by(1, 0, 1), by(2, 0, 1)), state(inf, by(3, 0, 2)), state(0)), 10},
	})
	ringed := machine(0, state(5, by(1, 6, 1)), state(3, by(1, 2, 0)))
	checkMade(t, "a ring", ringed, machine(0, state(0, by(1, 4, 0))), 5)
	ringed.States[1].Arcs[0].Weight = 1
	checkMade(t, "a ring that stays", ringed, machine(0, state(0, by(1, 4, 1)), state(0, by(1, 3, 0))), 5)
}

// P18.1: the machine is trimmed, so that what leads nowhere tells no states apart, and what can't be reached is not there.
func TestTrimmed(t *testing.T) {
	x := arc(3, 4, 5, 0)
	want := machine(0, state(inf, by(1, 0, 1), by(2, 0, 1)), state(0, x))
	checkAll(t, []example{
		{"an arc to a state that can't end", both(state(0, x, by(9, 1, 3)), state(0, x), state(inf, by(1, 1, 3))), want, 0},
		{"arcs to other such states", both(state(0, by(9, 1, 3), x), state(0, x, by(9, 2, 4)), state(inf), state(inf, by(1, 1, 4))), want, 0},
		{"what can't be reached", both(state(0, x), state(0, x), state(0), state(0, by(7, 7, 1), by(8, 8, 3))), want, 0},
		{"what can't be reached, ahead", machine(1, state(7, by(1, most, 3)), state(inf, by(1, 0, 2), by(2, 0, 3)), state(0, arc(3, 4, 5, 1)), state(0, arc(3, 4, 5, 1))), want, 0},
		{"dear, but it can't be reached", machine(0, state(0), state(inf, by(1, most, 2)), state(most)), machine(0, state(0)), 0},
		{"dear, but it leads nowhere", machine(0, state(0, by(1, most, 1)), state(inf, by(1, most, 1))), machine(0, state(0)), 0},
	})
}

// P18.1: states are numbered as arcs lead to them, and the arcs stand in order.
func TestNumbersOfStates(t *testing.T) {
	apart := func(n, to int) api.Arc { return arc(9, n, 0, to) }
	checkAll(t, []example{
		{"by labels, not by numbers", machine(0, state(0, by(1, 0, 3), by(2, 0, 1), by(3, 0, 2)), state(0, apart(1, 1)), state(0, apart(2, 2)), state(0, apart(3, 3))),
			machine(0, state(0, by(1, 0, 1), by(2, 0, 2), by(3, 0, 3)), state(0, apart(3, 1)), state(0, apart(1, 2)), state(0, apart(2, 3))), 0},
		{"by labels, not by the order of arcs", machine(0, state(0, by(3, 0, 1), by(2, 0, 2), by(1, 0, 3)), state(0, apart(1, 1)), state(0, apart(2, 2)), state(0, apart(3, 3))),
			machine(0, state(0, by(1, 0, 1), by(2, 0, 2), by(3, 0, 3)), state(0, apart(3, 1)), state(0, apart(2, 2)), state(0, apart(1, 3))), 0},
		{"by In, then by Out, as numbers", machine(0, state(0, arc(10, 1, 1, 0), arc(9, 10, 2, 0), arc(9, 9, 3, 0), arc(0, 10, 4, 0))),
			machine(0, state(0, arc(0, 10, 4, 0), arc(9, 9, 3, 0), arc(9, 10, 2, 0), arc(10, 1, 1, 0))), 0},
		{"Start is the last one", machine(2, state(0, apart(1, 1)), state(0, apart(2, 2)), state(0, apart(3, 0))),
			machine(0, state(0, apart(3, 1)), state(0, apart(1, 2)), state(0, apart(2, 0))), 0},
		{"state by state", machine(0, state(0, by(1, 0, 5), by(2, 0, 4)), state(0, apart(1, 1)), state(0, apart(2, 2)), state(0, apart(3, 3)), state(0, by(1, 0, 3)), state(0, by(2, 0, 1), by(1, 0, 2))),
			machine(0, state(0, by(1, 0, 1), by(2, 0, 2)), state(0, by(1, 0, 3), by(2, 0, 4)), state(0, by(1, 0, 5)), state(0, apart(2, 3)), state(0, apart(1, 4)), state(0, apart(3, 5))), 0},
		{"one that is there already", machine(0, state(0, by(1, 0, 1), by(2, 0, 2), by(3, 0, 3)), state(0), state(0), state(0, by(4, 0, 1), by(5, 0, 3), by(6, 0, 2), by(7, 0, 0))),
			machine(0, state(0, by(1, 0, 1), by(2, 0, 1), by(3, 0, 2)), state(0), state(0, by(4, 0, 1), by(5, 0, 2), by(6, 0, 1), by(7, 0, 0))), 0},
	})
}

// P18.1: where Push leaves no Start.
func TestWithoutStart(t *testing.T) {
	for _, m := range []api.Machine{
		machine(-1), {Start: -1, States: []api.State{}}, machine(-1, state(0)), machine(-1, state(most, by(1, most, 0))),
		machine(-1, chain(60, most, most).States...), machine(-1, state(0, spread(400, 0)...)),
		machine(0, state(inf)), machine(0, state(inf, by(1, 1, 0))), machine(1, state(3, by(1, 1, 1)), state(inf)), chain(60, most, inf),
	} {
		checkMade(t, "no Start", m, machine(-1), 0)
	}
}

// P18.1: ErrEmpty, wherever the arc is; ahead of ErrTwin, and of what Push refuses.
func TestEmptyArcs(t *testing.T) {
	twins := machine(0, state(0, by(1, 1, 0), by(1, 2, 0)))
	over := machine(0, state(inf, by(1, 1, 1)), state(most))
	nowhere := machine(0, state(0), state(inf), state(0, by(1, 1, 0)))
	for _, m := range []api.Machine{machine(0, state(0)), nowhere, twins, over} {
		for _, empty := range []api.Arc{{}, {Weight: 5}, {Weight: most}, {To: len(m.States) - 1}} {
			for q := range m.States {
				with := copied(m)
				with.States[q].Arcs = append(with.States[q].Arcs, empty)
				for start := -1; start < len(m.States); start++ {
					with.Start = start
					checkRefused(t, "empty, the last arc", with, api.ErrEmpty)
				}
				with.Start = 0
				slices.Reverse(with.States[q].Arcs)
				checkRefused(t, "empty, the first arc", with, api.ErrEmpty)
				with.States[q].Arcs = []api.Arc{empty, empty}
				checkRefused(t, "empty twice", with, api.ErrEmpty)
			}
		}
	}
	checkMade(t, "empty on one side", machine(0, state(0, arc(1, 0, 2, 0), arc(0, 1, 3, 0))), machine(0, state(0, arc(0, 1, 3, 0), arc(1, 0, 2, 0))), 0)
}

// P18.1: ErrTwin, wherever the arcs are; ahead of what Push refuses.
func TestTwins(t *testing.T) {
	over := machine(0, state(inf, by(1, 1, 1)), state(most))
	nowhere := machine(0, state(0), state(inf), state(0, by(1, 1, 0)))
	for _, m := range []api.Machine{machine(0, state(0)), nowhere, over, machine(0, state(inf))} {
		last := len(m.States) - 1
		for _, twins := range [][]api.Arc{
			{arc(5, 6, 1, 0), arc(5, 6, 1, 0)},
			{arc(5, 6, 1, 0), arc(5, 6, 2, 0)},
			{arc(5, 6, 1, 0), arc(5, 6, 1, last)},
			{arc(5, 6, 1, 0), by(7, 0, last), arc(5, 6, 0, last)},
			{arc(0, 6, 1, 0), arc(0, 6, 1, 0)},
			{arc(6, 0, 1, 0), arc(6, 0, 1, 0)},
			{by(top, most, 0), by(top, most, last)},
		} {
			for q := range m.States {
				with := copied(m)
				with.States[q].Arcs = append(with.States[q].Arcs, twins...)
				for start := -1; start <= last; start++ {
					with.Start = start
					checkRefused(t, "twins", with, api.ErrTwin)
				}
			}
		}
	}
	checkMade(t, "labels the other way round", machine(0, state(0, arc(2, 1, 1, 0), arc(1, 2, 1, 0))), machine(0, state(0, arc(1, 2, 1, 0), arc(2, 1, 1, 0))), 0)
	checkMade(t, "the same In", machine(0, state(0, arc(1, 1, 1, 0), arc(1, 2, 1, 0))), machine(0, state(0, arc(1, 1, 1, 0), arc(1, 2, 1, 0))), 0)
	checkMade(t, "the same Out", machine(0, state(0, arc(1, 2, 1, 0), arc(2, 2, 1, 0))), machine(0, state(0, arc(1, 2, 1, 0), arc(2, 2, 1, 0))), 0)
	checkMade(t, "in two states", machine(0, state(0, by(1, 1, 1)), state(0, by(1, 2, 0))), machine(0, state(0, by(1, 1, 1)), state(0, by(1, 2, 0))), 0)
}

// P18.1: what Push refuses.
func TestWhatPushRefuses(t *testing.T) {
	for what, m := range map[string]api.Machine{
		"the end is too far":             machine(0, state(inf, by(1, 1, 1)), state(most)),
		"the end is too far, by arcs":    chain(3, most, 0),
		"the end is far too far":         chain(60, most, most),
		"too far from another state":     machine(0, state(0, by(1, 0, 1)), state(inf, by(1, most, 2)), state(1)),
		"a Weight would be too much":     machine(0, state(0, by(1, most, 1)), state(1)),
		"a Weight would be far too much": machine(0, state(0, by(1, most, 1)), state(most)),
		"a Weight of a way back":         machine(0, state(1, by(1, 5, 1)), state(0, by(1, most, 0))),
	} {
		if _, _, err := push.Push(m); err != api.ErrOver {
			t.Errorf("%s: Push answers %v", what, err)
		}
		checkRefused(t, what, m, api.ErrOver)
	}
	checkMade(t, "as far as may be", machine(0, state(inf, by(1, 1, 1)), state(most-1)), machine(0, state(inf, by(1, 0, 1)), state(0)), most)
	checkMade(t, "a Weight as great as may be", machine(0, state(0, by(1, most-1, 1)), state(1)), machine(0, state(0, by(1, most, 1)), state(0)), 0)
}

// P4.1: machines that are not right are refused ahead of all else.
func TestWrongMachines(t *testing.T) {
	worse := []api.Arc{{}, by(1, most, 0), by(1, most, 0)}
	for _, n := range []int{math.MinInt, -2, 1, math.MaxInt} {
		checkRefused(t, "Start", machine(n, state(most, worse...)), api.ErrRange)
	}
	for _, n := range []int{math.MinInt, -1, inf + 1, math.MaxInt} {
		checkRefused(t, "Final", machine(0, state(n, worse...)), api.ErrRange)
		for _, a := range []api.Arc{{In: n}, {Out: n}, {Weight: n}, {To: n}, {In: top + 1}, {Out: top + 1}, {Weight: inf}, {To: 1}} {
			checkRefused(t, "an arc", machine(0, state(most, append(slices.Clone(worse), a)...)), api.ErrRange)
			checkRefused(t, "an arc, no Start", machine(-1, state(0, a)), api.ErrRange)
		}
	}
	checkRefused(t, "no states, Start 0", machine(0), api.ErrRange)
	tooMany := machine(0, slices.Repeat([]api.State{state(most)}, api.MaxStates+1)...)
	tooMany.States[0].Arcs = worse
	checkRefused(t, "too many states", tooMany, api.ErrSize)
	checkRefused(t, "too many arcs", machine(0, state(-1, slices.Repeat(worse, api.MaxArcs)...)), api.ErrSize)
	if core.Check(machine(0, state(most, worse...))) != api.OK {
		t.Error("what is worse is not right itself")
	}
}
