package push

import (
	"math"
	"slices"
	"testing"

	"tropica/api"
	"tropica/core"
)

const (
	most = api.MaxWeight
	inf  = api.Inf
	top  = api.MaxLabel
)

func machine(start int, states ...api.State) api.Machine {
	return api.Machine{Start: start, States: states}
}

func state(final int, arcs ...api.Arc) api.State {
	return api.State{Final: final, Arcs: arcs}
}

func arc(in, out, weight, to int) api.Arc {
	return api.Arc{In: in, Out: out, Weight: weight, To: to}
}

// by: an arc whose labels don't matter.
func by(weight, to int) api.Arc { return arc(1, 2, weight, to) }

// chain: n states, an arc of this weight to the next one each; the last one ends for final.
func chain(n, weight, final int) api.Machine {
	m := api.Machine{States: make([]api.State, n)}
	for q := range n - 1 {
		m.States[q] = state(inf, by(weight, q+1))
	}
	m.States[n-1] = state(final)
	return m
}

// equal: an empty list may be nil or not.
func equal(a, b api.Machine) bool {
	return a.Start == b.Start && slices.EqualFunc(a.States, b.States, func(s, r api.State) bool {
		return s.Final == r.Final && slices.Equal(s.Arcs, r.Arcs)
	})
}

func checkPush(t *testing.T, what string, m, want api.Machine, wantTotal int) {
	t.Helper()
	if got, total, err := Push(m); err != api.OK || total != wantTotal || !equal(got, want) {
		t.Errorf("%s: %v pushed is %v, %d, %v, want %v, %d", what, m, got, total, err, want, wantTotal)
	}
}

func checkPull(t *testing.T, what string, m api.Machine, total int, want api.Machine) {
	t.Helper()
	if got, err := Pull(m, total); err != api.OK || !equal(got, want) {
		t.Errorf("%s: %v pulled by %d is %v, %v, want %v", what, m, total, got, err, want)
	}
}

func checkNoPush(t *testing.T, what string, m api.Machine, want api.Errno) {
	t.Helper()
	if got, total, err := Push(m); err != want || total != 0 || got.Start != 0 || len(got.States) != 0 {
		t.Errorf("%s: %v pushed is %v, %d, %v, want nothing, %v", what, m, got, total, err, want)
	}
}

func checkNoPull(t *testing.T, what string, m api.Machine, total int, want api.Errno) {
	t.Helper()
	if got, err := Pull(m, total); err != want || got.Start != 0 || len(got.States) != 0 {
		t.Errorf("%s: %v pulled by %d is %v, %v, want nothing, %v", what, m, total, got, err, want)
	}
}

// P15.1: the chapter's example.
func TestExample(t *testing.T) {
	checkPush(t, "example", machine(0, state(inf, by(2, 1)), state(3)), machine(0, state(inf, by(0, 1)), state(0)), 5)
}

// P15.1
func TestPush(t *testing.T) {
	for _, c := range []struct {
		what    string
		m, want api.Machine
		total   int
	}{
		{"one state", machine(0, state(7)), machine(0, state(0)), 7},
		{"one state that ends for nothing", machine(0, state(0)), machine(0, state(0)), 0},
		{"one state that ends for the most", machine(0, state(most)), machine(0, state(0)), most},
		{"an arc to itself keeps its weight", machine(0, state(7, by(4, 0))), machine(0, state(0, by(4, 0))), 7},
		{"nothing to push", machine(0, state(0, by(4, 1)), state(0, by(5, 0))), machine(0, state(0, by(4, 1)), state(0, by(5, 0))), 0},
		{"three states", machine(0, state(inf, by(2, 1)), state(inf, by(3, 2)), state(4)), machine(0, state(inf, by(0, 1)), state(inf, by(0, 2)), state(0)), 9},
		{"Start is the last one", machine(2, state(4), state(inf, by(3, 0)), state(inf, by(2, 1))), machine(2, state(0), state(inf, by(0, 0)), state(inf, by(0, 1))), 9},
		{"Start is between", machine(1, state(4), state(inf, by(3, 2), by(1, 0)), state(1)), machine(1, state(0), state(inf, by(0, 2), by(1, 0)), state(0)), 4},
		{"its own Final is cheaper", machine(0, state(3, by(1, 1)), state(5)), machine(0, state(0, by(3, 1)), state(0)), 3},
		{"its own Final is dearer", machine(0, state(9, by(1, 1)), state(5)), machine(0, state(3, by(0, 1)), state(0)), 6},
		{"its own Final is as dear", machine(0, state(6, by(1, 1)), state(5)), machine(0, state(0, by(0, 1)), state(0)), 6},
		{"of two ways the dearer one first", machine(0, state(inf, by(9, 1), by(2, 2)), state(1), state(3)), machine(0, state(inf, by(5, 1), by(0, 2)), state(0), state(0)), 5},
		{"of two ways the cheaper one first", machine(0, state(inf, by(2, 1), by(9, 2)), state(3), state(1)), machine(0, state(inf, by(0, 1), by(5, 2)), state(0), state(0)), 5},
		{"a way round is cheaper", machine(0, state(inf, by(9, 2), by(2, 1)), state(inf, by(3, 2)), state(1)), machine(0, state(inf, by(4, 2), by(0, 1)), state(inf, by(0, 2)), state(0)), 6},
		{"a cycle", machine(0, state(inf, by(2, 1)), state(5, by(3, 0))), machine(0, state(inf, by(0, 1)), state(0, by(5, 0))), 7},
		{"a cycle for nothing", machine(0, state(inf, by(0, 1)), state(4, by(0, 0), by(0, 1))), machine(0, state(inf, by(0, 1)), state(0, by(0, 0), by(0, 1))), 4},
	} {
		checkPush(t, c.what, c.m, c.want, c.total)
	}
}

// P15.1: the total is 0 where there is no Start.
func TestPushWithoutStart(t *testing.T) {
	for _, m := range []api.Machine{
		machine(-1),
		{Start: -1, States: []api.State{}},
		machine(-1, state(5)),
		machine(-1, state(inf, by(2, 1)), state(3)),
		machine(-1, state(inf, by(most, 1)), state(most)),
		machine(0, state(inf)),
		machine(0, state(inf, by(2, 1)), state(inf, by(3, 0))),
		machine(1, state(3), state(inf)),
		chain(api.MaxStates, most, inf),
	} {
		checkPush(t, "no Start", m, machine(-1), 0)
	}
}

// P15.1: labels, and which arc stands where, stay as they are; empty arcs and arcs that are alike do, too.
func TestPushLeavesLabels(t *testing.T) {
	m := machine(0,
		state(inf, arc(top, 1, 5, 1), arc(1, top, 4, 1), arc(0, 0, 3, 1), arc(0, 0, 3, 1), arc(0, 9, 6, 1), arc(9, 0, 7, 0)),
		state(2, arc(3, 2, 0, 1), arc(2, 3, 8, 0)))
	want := machine(0,
		state(inf, arc(top, 1, 2, 1), arc(1, top, 1, 1), arc(0, 0, 0, 1), arc(0, 0, 0, 1), arc(0, 9, 3, 1), arc(9, 0, 7, 0)),
		state(0, arc(3, 2, 0, 1), arc(2, 3, 11, 0)))
	checkPush(t, "labels", m, want, 5)
}

// untrimmed: states 0, 2 and 5 lead nowhere or can't be reached.
func untrimmed(final int, arcs ...api.Arc) api.Machine {
	return machine(3,
		state(most, by(most, 2), by(most, 3)),
		state(final),
		state(0, by(0, 2)),
		state(inf, append([]api.Arc{by(most, 5)}, arcs...)...),
		state(7, by(1, 1), by(most, 5), by(4, 3)),
		state(inf, by(most, 5)))
}

// P15.1, P15.2: the machine is trimmed, its states are numbered anew.
func TestMachinesAreTrimmed(t *testing.T) {
	m := untrimmed(2, by(8, 1), by(6, 4))
	checkPush(t, "trimmed", m, machine(1, state(0), state(inf, by(1, 0), by(0, 2)), state(4, by(0, 0), by(10, 1))), 9)
	checkPull(t, "trimmed", m, 5, machine(1, state(7), state(inf, by(8, 0), by(6, 2)), state(12, by(1, 0), by(4, 1))))
	checkPull(t, "trimmed, by nothing", m, 0, machine(1, state(2), state(inf, by(8, 0), by(6, 2)), state(7, by(1, 0), by(4, 1))))
}

// P15.1: ErrOver, as Ends refuses it.
func TestEndsThatAreTooMuch(t *testing.T) {
	for _, c := range []struct {
		what string
		m    api.Machine
	}{
		{"by one, the Final counts", machine(0, state(inf, by(most, 1)), state(1))},
		{"by one, the arc counts", machine(0, state(inf, by(1, 1)), state(most))},
		{"by two", machine(0, state(inf, by(2, 1)), state(most))},
		{"by one, two arcs", machine(0, state(inf, by(most, 1)), state(inf, by(1, 2)), state(0))},
		{"by very much", chain(api.MaxStates, most, most)},
		{"not the Start's", machine(0, state(0, by(0, 1)), state(inf, by(1, 2)), state(most))},
	} {
		checkNoPush(t, c.what, c.m, api.ErrOver)
	}
}

// P15.1: ErrOver, of a Weight.
func TestWeightsThatAreTooMuch(t *testing.T) {
	for _, c := range []struct {
		what string
		m    api.Machine
	}{
		{"by one, the To counts", machine(0, state(0, by(most, 1)), state(1))},
		{"by one, the arc counts", machine(0, state(0, by(1, 1)), state(most))},
		{"by two", machine(0, state(0, by(2, 1)), state(most))},
		{"by one, with what is less", machine(0, state(5, by(most, 1)), state(6))},
		{"by much", machine(0, state(0, by(most, 1)), state(most))},
		{"the last one of three arcs", machine(0, state(0, by(0, 1), by(most-1, 1), by(most, 1)), state(1))},
		{"the first one of three arcs", machine(0, state(0, by(most, 1), by(most-1, 1), by(0, 1)), state(1))},
		{"not an arc of Start", machine(0, state(1, by(1, 1)), state(0, by(most, 0)))},
		{"an arc of the last state", machine(0, state(0, by(0, 1)), state(0, by(0, 2)), state(0, by(most, 3)), state(1))},
	} {
		checkNoPush(t, c.what, c.m, api.ErrOver)
	}
}

// P15.1: what is not above MaxWeight, or not there any more when it is trimmed, is not too much.
func TestNotTooMuchToPush(t *testing.T) {
	checkPush(t, "as much as may be", machine(0, state(0, by(most-1, 1)), state(1)), machine(0, state(0, by(most, 1)), state(0)), 0)
	checkPush(t, "as much as may be, a Final", machine(0, state(0, by(0, 1)), state(most)), machine(0, state(0, by(most, 1)), state(0)), 0)
	checkPush(t, "as much as may be, a total", machine(0, state(inf, by(most-1, 1)), state(1)), machine(0, state(inf, by(0, 1)), state(0)), most)
	checkPush(t, "less makes it less", machine(0, state(6, by(most, 1)), state(5)), machine(0, state(0, by(most-1, 1)), state(0)), 6)
	checkPush(t, "less makes it as much as may be", machine(0, state(6, by(most, 1)), state(6)), machine(0, state(0, by(most, 1)), state(0)), 6)
	checkPush(t, "both the most", machine(0, state(most, by(most, 1)), state(most)), machine(0, state(0, by(most, 1)), state(0)), most)
	checkPush(t, "a chain", chain(api.MaxStates, most/59, most%59), chain(api.MaxStates, 0, 0), most)
	checkNoPush(t, "a chain, by one", chain(api.MaxStates, most/59, most%59+1), api.ErrOver)
	checkPush(t, "ends of what can't be reached", machine(0, state(3), state(inf, by(most, 2)), state(most)), machine(0, state(0)), 3)
	checkPush(t, "a Weight of what can't be reached", machine(0, state(3), state(0, by(most, 0))), machine(0, state(0)), 3)
	checkPush(t, "a Weight to what can't end", machine(0, state(3, by(most, 1)), state(inf)), machine(0, state(0)), 3)
}

// P15.2
func TestPull(t *testing.T) {
	m := machine(0, state(inf, arc(1, 2, 3, 1), arc(0, 0, 9, 0)), state(0, arc(2, 1, most, 0)), state(5))
	m.States[1].Arcs = append(m.States[1].Arcs, arc(0, 1, 0, 2))
	for _, total := range []int{0, 1, 4, 77, most - 5} {
		want := machine(0, m.States[0], state(total, m.States[1].Arcs...), state(5+total))
		checkPull(t, "three states", m, total, want)
	}
	checkPull(t, "the most, by nothing", machine(0, state(most)), 0, machine(0, state(most)))
	checkPull(t, "nothing, by the most", machine(0, state(0)), most, machine(0, state(most)))
	checkPull(t, "in two", machine(0, state(1)), most-1, machine(0, state(most)))
	checkPull(t, "Inf stays", machine(0, state(inf, by(1, 1)), state(0)), most, machine(0, state(inf, by(1, 1)), state(most)))
	checkPull(t, "Start is the last one", machine(1, state(2), state(1, by(1, 0))), 3, machine(1, state(5), state(4, by(1, 0))))
	for _, total := range []int{0, 1, most} {
		checkPull(t, "no states", machine(-1), total, machine(-1))
		checkPull(t, "no Start", machine(-1, state(most)), total, machine(-1))
		checkPull(t, "no end", machine(0, state(inf, by(1, 0))), total, machine(-1))
		checkPull(t, "a Final that can't be reached", machine(0, state(0), state(most)), total, machine(0, state(total)))
	}
}

// P15.2: ErrRange
func TestPullBeyondRange(t *testing.T) {
	for _, total := range []int{-1, -2, inf, inf + 1, -most, math.MinInt, math.MaxInt} {
		for _, m := range []api.Machine{
			machine(-1),
			machine(-1, state(0)),
			machine(0, state(inf)),
			machine(0, state(0)),
			machine(0, state(5)),
			machine(0, state(most)),
			machine(0, state(inf, by(2, 1)), state(3)),
		} {
			checkNoPull(t, "beyond range", m, total, api.ErrRange)
		}
	}
}

// P15.2: ErrOver
func TestPullTooMuch(t *testing.T) {
	for _, c := range []struct {
		what  string
		m     api.Machine
		total int
	}{
		{"by one, the Final counts", machine(0, state(1)), most},
		{"by one, the total counts", machine(0, state(most)), 1},
		{"by two", machine(0, state(most)), 2},
		{"by much", machine(0, state(most)), most},
		{"the first one of two", machine(0, state(9, by(0, 1)), state(0)), most - 8},
		{"the last one of two", machine(0, state(0, by(0, 1)), state(9)), most - 8},
		{"as trimmed", untrimmed(9, by(0, 1)), most - 8},
	} {
		checkNoPull(t, c.what, c.m, c.total, api.ErrOver)
	}
	checkPull(t, "not too much as trimmed", untrimmed(9, by(0, 1)), most-9, machine(1, state(most), state(inf, by(0, 0))))
}

func wrongMachines() []api.Machine {
	x := machine(0, state(inf, by(most, 1)), state(most))
	l := []api.Machine{{}, {Start: 1}, {Start: -2},
		chain(api.MaxStates+1, most, most),
		machine(0, state(0, slices.Repeat([]api.Arc{by(0, 0)}, api.MaxArcs+1)...)),
		machine(-1, state(0, slices.Repeat([]api.Arc{by(0, 0)}, 200)...), state(0, slices.Repeat([]api.Arc{by(0, 0)}, 201)...)),
		machine(2, x.States...), machine(-2, x.States...)}
	for _, n := range []int{math.MinInt, math.MaxInt, -2, inf + 1} {
		l = append(l,
			machine(n, state(0)),
			machine(0, state(n)),
			machine(0, state(0), state(n)),
			machine(0, state(0, arc(n, 0, 0, 0))),
			machine(0, state(0, arc(0, n, 0, 0))),
			machine(0, state(0, by(n, 0))),
			machine(0, state(0, by(0, n))),
			machine(0, state(0), state(inf, by(n, 1))))
	}
	return append(l,
		machine(0, state(-1)),
		machine(0, state(0, arc(top+1, 0, 0, 0))),
		machine(0, state(0, arc(0, top+1, 0, 0))),
		machine(0, state(0, by(inf, 0))),
		machine(0, state(0, by(0, 1))),
		machine(0, state(0, by(0, -1))),
		machine(-1, state(0, by(0, 1))))
}

// P4.1: a machine that is not right is refused, ahead of all else, also where no path goes.
func TestMachinesThatAreNotRight(t *testing.T) {
	for _, m := range wrongMachines() {
		want := core.Check(m)
		if want == api.OK {
			t.Errorf("%v is right", m)
		}
		checkNoPush(t, "not right", m, want)
		for _, total := range []int{0, 1, most, -1, inf, math.MinInt, math.MaxInt} {
			checkNoPull(t, "not right", m, total, want)
		}
	}
}
