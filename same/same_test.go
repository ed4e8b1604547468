package same

import (
	"math"
	"slices"
	"testing"

	"tropica/api"
	"tropica/certain"
	"tropica/core"
	"tropica/empties"
	"tropica/least"
	"tropica/rational"
)

const (
	most = api.MaxWeight
	inf  = api.Inf
	top  = api.MaxLabel
)

func machine(start int, states ...api.State) api.Machine {
	return api.Machine{Start: start, States: states}
}

func state(final int, arcs ...api.Arc) api.State {
	return api.State{Final: final, Arcs: arcs}
}

func arc(in, out, weight, to int) api.Arc {
	return api.Arc{In: in, Out: out, Weight: weight, To: to}
}

// by: an arc that reads and writes one label.
func by(label, weight, to int) api.Arc { return arc(label, label, weight, to) }

// hop: an empty arc.
func hop(weight, to int) api.Arc { return arc(0, 0, weight, to) }

// alike: an empty list may be nil or not.
func alike(a, b api.Machine) bool {
	return a.Start == b.Start && slices.EqualFunc(a.States, b.States, func(s, r api.State) bool {
		return s.Final == r.Final && slices.Equal(s.Arcs, r.Arcs)
	})
}

func checkNormal(t *testing.T, what string, m, want api.Machine, wantTotal int) {
	t.Helper()
	if got, total, err := Normal(m); err != api.OK || total != wantTotal || !alike(got, want) {
		t.Errorf("%s: %v became %v, %d, %v, want %v, %d", what, m, got, total, err, want, wantTotal)
	}
}

// checkSame: it does not matter which of two is the first one.
func checkSame(t *testing.T, what string, a, b api.Machine, want bool) {
	t.Helper()
	if got, err := Same(a, b); err != api.OK || got != want {
		t.Errorf("%s: %v and %v: %v, %v, want %v", what, a, b, got, err, want)
	}
	if got, err := Same(b, a); err != api.OK || got != want {
		t.Errorf("%s, turned: %v and %v: %v, %v, want %v", what, b, a, got, err, want)
	}
}

func checkSameRefused(t *testing.T, what string, a, b api.Machine, want api.Errno) {
	t.Helper()
	if got, err := Same(a, b); err != want || got {
		t.Errorf("%s: %v and %v: %v, %v, want false, %v", what, a, b, got, err, want)
	}
}

// checkRefused: what Normal refuses, Same refuses too, of the first one and of the second one.
func checkRefused(t *testing.T, what string, m api.Machine, want api.Errno) {
	t.Helper()
	if got, total, err := Normal(m); err != want || total != 0 || got.Start != 0 || len(got.States) != 0 {
		t.Errorf("%s: %v became %v, %d, %v, want nothing, %v", what, m, got, total, err, want)
	}
	checkSameRefused(t, what+", first", m, plain, want)
	checkSameRefused(t, what+", second", plain, m, want)
	checkSameRefused(t, what+", both", m, m, want)
}

// Machines that steps refuse: the first one of them, the second one, the third one.
var (
	plain      = machine(0, state(inf, arc(1, 2, 3, 1)), state(0))
	removeOver = machine(0, state(inf, hop(most, 1)), state(1))
	makeOver   = machine(0, state(inf, by(1, 0, 1), by(1, most, 2)), state(inf), state(inf, by(2, 1, 0)))
	pushOver   = machine(0, state(inf, by(1, most, 1)), state(1))
)

// removeFull: each of these states gets the arcs of all those behind it.
func removeFull() api.Machine {
	m := api.Machine{States: make([]api.State, 30)}
	for q := range m.States {
		m.States[q] = state(0, by(q+1, 0, q), hop(0, (q+1)%30))
	}
	return m
}

// makeFull: which of the last eight labels were 1 is known only by as many sets as there are such rows.
func makeFull() api.Machine {
	m := machine(0, state(inf, by(1, 0, 0), by(2, 0, 0), by(1, 0, 1)))
	for q := 1; q < 8; q++ {
		m.States = append(m.States, state(inf, by(1, 0, q+1), by(2, 0, q+1)))
	}
	m.States = append(m.States, state(0))
	return m
}

// P19.2: the chapter's example.
func TestExample(t *testing.T) {
	for _, m := range []api.Machine{plain, machine(0, state(2, by(1, 5, 0), by(2, 1, 0))), machine(0, state(inf))} {
		ahead := machine(len(m.States), append(slices.Clone(m.States), state(inf, hop(0, m.Start)))...)
		checkSame(t, "an empty arc ahead", m, ahead, true)
		costly := machine(len(m.States), append(slices.Clone(m.States), state(inf, hop(1, m.Start)))...)
		checkSame(t, "an empty arc ahead that costs", m, costly, m.States[0].Final == inf && len(m.States[0].Arcs) == 0)
	}
}

// P19.1: ordinary machines and edges.
func TestNormals(t *testing.T) {
	for _, c := range []struct {
		what    string
		m, want api.Machine
		total   int
	}{
		{"one arc", plain, machine(0, state(inf, arc(1, 2, 0, 1)), state(0)), 3},
		{"no states", machine(-1), machine(-1), 0},
		{"no Start", machine(-1, state(0, by(1, 2, 0))), machine(-1), 0},
		{"no Start, an empty arc, twins", machine(-1, state(0, hop(2, 0), by(1, 1, 0), by(1, 2, 0))), machine(-1), 0},
		{"can't end", machine(0, state(inf, by(1, 2, 0))), machine(-1), 0},
		{"only the empty words", machine(0, state(0)), machine(0, state(0)), 0},
		{"only the empty words, for most", machine(0, state(most)), machine(0, state(0)), most},
		{"Start is not 0", machine(1, state(4), state(inf, by(7, 2, 0))), machine(0, state(inf, by(7, 0, 1)), state(0)), 6},
		{"an empty ring", machine(0, state(inf, hop(1, 1)), state(5, hop(0, 0), by(1, 1, 1))), machine(0, state(0, by(1, 1, 0))), 6},
		{"empty to an end", machine(0, state(inf, hop(2, 1)), state(3)), machine(0, state(0)), 5},
		{"empty on one side", machine(0, state(inf, arc(1, 0, 1, 1)), state(inf, arc(0, 1, 2, 2)), state(0)),
			machine(0, state(inf, arc(1, 0, 0, 1)), state(inf, arc(0, 1, 0, 2)), state(0)), 3},
		{"twins", machine(0, state(inf, by(1, 2, 1), by(1, 5, 2)), state(inf, by(2, 0, 3)), state(inf, by(2, 0, 3), by(3, 0, 3)), state(0)),
			machine(0, state(inf, by(1, 0, 1)), state(inf, by(2, 0, 2), by(3, 3, 2)), state(0)), 2},
		{"states alike", machine(0, state(inf, by(2, 3, 1), by(1, 1, 2)), state(4), state(6)),
			machine(0, state(inf, by(1, 0, 1), by(2, 0, 1)), state(0)), 7},
		{"greatest labels", machine(0, state(inf, arc(top, top, most, 1), arc(0, top, most, 1)), state(0)),
			machine(0, state(inf, arc(0, top, 0, 1), arc(top, top, 0, 1)), state(0)), most},
	} {
		checkNormal(t, c.what, c.m, c.want, c.total)
	}
}

// The example of the whole: a star is the same as the loop that it becomes.
func TestStar(t *testing.T) {
	star, err := rational.Star(plain)
	if err != api.OK {
		t.Fatal(err)
	}
	loop := machine(0, state(0, arc(1, 2, 3, 0)))
	checkNormal(t, "star", star, loop, 0)
	checkSame(t, "star", star, loop, true)
	checkSame(t, "not the star", star, plain, false)
}

// P19.2: what is the same, and what is not.
func TestSames(t *testing.T) {
	for _, c := range []struct {
		what string
		a, b api.Machine
		want bool
	}{
		{"no paths", machine(-1), machine(0, state(inf, by(1, 1, 0))), true},
		{"no paths, and one", machine(-1), machine(0, state(0)), false},
		{"other totals", machine(0, state(2)), machine(0, state(3)), false},
		{"other totals behind an arc", plain, machine(0, state(inf, arc(1, 2, 4, 1)), state(0)), false},
		{"one total, on the arc or at the end", plain, machine(0, state(inf, arc(1, 2, 1, 1)), state(2)), true},
		{"other In", plain, machine(0, state(inf, arc(2, 2, 3, 1)), state(0)), false},
		{"other Out", plain, machine(0, state(inf, arc(1, 1, 3, 1)), state(0)), false},
		{"other Final", machine(0, state(0, by(1, 0, 1)), state(0)), machine(0, state(1, by(1, 0, 1)), state(0)), false},
		{"no Final", machine(0, state(0, by(1, 0, 1)), state(0)), machine(0, state(inf, by(1, 0, 1)), state(0)), false},
		{"an arc more", machine(0, state(0, by(1, 1, 0))), machine(0, state(0, by(1, 1, 0), by(2, 1, 0))), false},
		{"a heavier twin", machine(0, state(0, by(1, 1, 0))), machine(0, state(0, by(1, 2, 0), by(1, 1, 0))), true},
		{"a lighter twin", machine(0, state(0, by(1, 1, 0))), machine(0, state(0, by(1, 0, 0), by(1, 1, 0))), false},
		{"another order", machine(0, state(0, by(1, 1, 0), by(2, 1, 0))), machine(0, state(0, by(2, 1, 0), by(1, 1, 0))), true},
		{"unfolded", machine(0, state(0, by(1, 1, 0))), machine(2, state(0, by(1, 1, 1)), state(0, by(1, 1, 2)), state(0, by(1, 1, 0))), true},
		{"where an arc leads", machine(0, state(0, by(1, 1, 0))), machine(0, state(0, by(1, 1, 1)), state(0)), false},
		{"label by label", machine(0, state(inf, arc(1, 1, 0, 1)), state(0)),
			machine(0, state(inf, arc(1, 0, 0, 1)), state(inf, arc(0, 1, 0, 2)), state(0)), false},
	} {
		checkSame(t, c.what, c.a, c.b, c.want)
	}
}

// P19.1: what one of the steps refuses; each one refuses what those ahead of it do not.
func TestWhatStepsRefuse(t *testing.T) {
	for _, c := range []struct {
		what  string
		m     api.Machine
		steps int
		want  api.Errno
	}{
		{"over without empty arcs", removeOver, 0, api.ErrOver},
		{"full without empty arcs", removeFull(), 0, api.ErrFull},
		{"over made certain", makeOver, 1, api.ErrOver},
		{"full made certain", makeFull(), 1, api.ErrFull},
		{"over made small", pushOver, 2, api.ErrOver},
	} {
		checkRefused(t, c.what, c.m, c.want)
		if got := stepsDone(c.m); got != c.steps {
			t.Errorf("%s: %d steps are done, want %d", c.what, got, c.steps)
		}
	}
}

// stepsDone: how many of the steps are done ahead of the one that refuses.
func stepsDone(m api.Machine) int {
	full, err := empties.Remove(m)
	if err != api.OK {
		return 0
	}
	sure, err := certain.Make(full)
	if err != api.OK {
		return 1
	}
	if _, _, err := least.Make(sure); err != api.OK {
		return 2
	}
	return 3
}

// What can't be reached counts where the first step refuses it, and where it gets too many arcs, but no further.
func TestWhatLeadsNowhere(t *testing.T) {
	checkRefused(t, "out of reach", machine(0, state(0), state(inf, hop(most, 2)), state(1)), api.ErrOver)
	checkNormal(t, "out of reach, certain it would be over", machine(3, append(slices.Clone(makeOver.States), state(7))...), machine(0, state(0)), 7)
	checkNormal(t, "out of reach, pushed it would be over", machine(2, append(slices.Clone(pushOver.States), state(7))...), machine(0, state(0)), 7)
	full := removeFull()
	full.Start = -1
	checkRefused(t, "no Start, full", full, api.ErrFull)
}

// P19.2: what Normal refuses, of the first one first.
func TestFirstOneFirst(t *testing.T) {
	overs, fulls := []api.Machine{removeOver, makeOver, pushOver}, []api.Machine{removeFull(), makeFull()}
	for _, over := range overs {
		for _, full := range fulls {
			checkSameRefused(t, "over first", over, full, api.ErrOver)
			checkSameRefused(t, "full first", full, over, api.ErrFull)
		}
	}
}

func huge() api.Machine {
	return machine(0, slices.Repeat([]api.State{state(-1)}, api.MaxStates+1)...)
}

// P4.1: a machine that is not right is refused, ahead of all else, the first one first.
func TestNotRight(t *testing.T) {
	checkRefused(t, "too many states", huge(), api.ErrSize)
	checkRefused(t, "too many arcs", machine(0, state(-1, slices.Repeat([]api.Arc{hop(0, 0)}, api.MaxArcs+1)...)), api.ErrSize)
	checkRefused(t, "zero machine", api.Machine{}, api.ErrRange)
	for _, n := range []int{-2, 1, 9, math.MinInt, math.MaxInt} {
		checkRefused(t, "Start", machine(n, state(0)), api.ErrRange)
	}
	for _, n := range []int{-1, math.MinInt, math.MaxInt} {
		checkRefused(t, "Final", machine(0, state(n)), api.ErrRange)
		for _, a := range []api.Arc{{In: n}, {Out: n}, {Weight: n}, {To: n}, {In: top + 1}, {Out: top + 1}, {Weight: inf}, {To: 1}} {
			checkRefused(t, "an arc", machine(0, state(0, a)), api.ErrRange)
			checkRefused(t, "an arc, no Start", machine(-1, state(0, a)), api.ErrRange)
		}
	}
	checkRefused(t, "Final above Inf", machine(0, state(inf+1)), api.ErrRange)
	checkSameRefused(t, "both, size first", huge(), api.Machine{}, api.ErrSize)
	checkSameRefused(t, "both, range first", api.Machine{}, huge(), api.ErrRange)
	for _, m := range []api.Machine{removeOver, removeFull(), makeOver, makeFull(), pushOver} {
		if core.Check(m) != api.OK {
			t.Errorf("%v is not right itself", m)
		}
		checkSameRefused(t, "a range behind what Normal refuses", m, api.Machine{}, api.ErrRange)
		checkSameRefused(t, "a range ahead of what Normal refuses", api.Machine{}, m, api.ErrRange)
		checkSameRefused(t, "a size behind what Normal refuses", m, huge(), api.ErrSize)
		checkSameRefused(t, "a size ahead of what Normal refuses", huge(), m, api.ErrSize)
	}
}
