package turn

import (
	"math"
	"slices"
	"strconv"
	"testing"

	"tropica/api"
	"tropica/core"
)

const (
	most = api.MaxWeight
	inf  = api.Inf
	top  = api.MaxLabel
)

func machine(start int, states ...api.State) api.Machine {
	return api.Machine{Start: start, States: states}
}

// state that ends for this much, with these arcs: In, Out, Weight and To of each.
func state(final int, arcs ...[4]int) api.State {
	s := api.State{Final: final}
	for _, a := range arcs {
		s.Arcs = append(s.Arcs, api.Arc{In: a[0], Out: a[1], Weight: a[2], To: a[3]})
	}
	return s
}

// simple: reads 1, writes 2, for 3.
func simple() api.Machine { return machine(0, state(inf, [4]int{1, 2, 3, 1}), state(0)) }

// mixed: the last of three states is Start; arcs of all kinds, also two that are the same, and not in order.
func mixed() api.Machine {
	return machine(2,
		state(most, [4]int{5, 0, most, 1}, [4]int{5, 0, most, 1}, [4]int{0, 4, 1, 0}),
		state(4),
		state(inf, [4]int{9, 8, 7, 2}, [4]int{0, 0, 6, 0}, [4]int{top, 1, 0, 1}, [4]int{2, 2, 5, 0}),
	)
}

// sized: so many states, none of which can end, with so many arcs in all.
func sized(states, arcs int) api.Machine {
	m := api.Machine{States: make([]api.State, states)}
	for q := range m.States {
		m.States[q].Final = inf
	}
	for i := range arcs {
		s := &m.States[i*7%states]
		s.Arcs = append(s.Arcs, api.Arc{In: 1 + i, Out: i, Weight: i, To: i % states})
	}
	return m
}

// ending: the machine, whose first n states can end.
func ending(m api.Machine, n int) api.Machine {
	m = copied(m)
	for q := range n {
		m.States[q].Final = q
	}
	return m
}

func startingAt(m api.Machine, start int) api.Machine {
	m.Start = start
	return m
}

func copied(m api.Machine) api.Machine {
	m.States = slices.Clone(m.States)
	for q := range m.States {
		m.States[q].Arcs = slices.Clone(m.States[q].Arcs)
	}
	return m
}

// alike: the same but for lists without elements, which may be nil or not.
func alike(a, b api.Machine) bool {
	return a.Start == b.Start && slices.EqualFunc(a.States, b.States, func(s, r api.State) bool {
		return s.Final == r.Final && slices.Equal(s.Arcs, r.Arcs)
	})
}

// call: one of the five, all of which are handed one machine.
type call struct {
	name string
	does func(m api.Machine) (api.Machine, api.Errno)
}

func calls() []call {
	return []call{
		{"Invert", Invert},
		{"Reads", Reads},
		{"Writes", Writes},
		{"Reverse", Reverse},
		{"Relabel", func(m api.Machine) (api.Machine, api.Errno) {
			return Relabel(m, changed(1, 2, 2, 0), changed(2, 1))
		}},
		{"Relabel by nothing", func(m api.Machine) (api.Machine, api.Errno) { return Relabel(m, nil, nil) }},
	}
}

// changed: the changes of these labels, From and To in turn.
func changed(labels ...int) []api.Change {
	var l []api.Change
	for i := 0; i < len(labels); i += 2 {
		l = append(l, api.Change{From: labels[i], To: labels[i+1]})
	}
	return l
}

// upward: n changes, of the labels from 1 on to the next one.
func upward(n int) []api.Change {
	l := make([]api.Change, n)
	for i := range l {
		l[i] = api.Change{From: 1 + i, To: 2 + i}
	}
	return l
}

func checkTurned(t *testing.T, what string, got api.Machine, err api.Errno, want api.Machine) {
	t.Helper()
	if err != api.OK || !alike(got, want) {
		t.Errorf("%s: %v, %v, want %v", what, got, err, want)
	}
	if e := core.Check(got); e != api.OK {
		t.Errorf("%s: %v is not right: %v", what, got, e)
	}
}

func checkRefused(t *testing.T, what string, got api.Machine, err, want api.Errno) {
	t.Helper()
	if err != want || got.Start != 0 || len(got.States) != 0 {
		t.Errorf("%s: %v, %v, want nothing, %v", what, got, err, want)
	}
}

// P11.1
func TestInvert(t *testing.T) {
	for _, c := range []struct {
		what    string
		m, want api.Machine
	}{
		{"nothing", machine(-1), machine(-1)},
		{"no arcs, no Start", machine(-1, state(7)), machine(-1, state(7))},
		{"simple", simple(), machine(0, state(inf, [4]int{2, 1, 3, 1}), state(0))},
		{"mixed", mixed(), machine(2,
			state(most, [4]int{0, 5, most, 1}, [4]int{0, 5, most, 1}, [4]int{4, 0, 1, 0}),
			state(4),
			state(inf, [4]int{8, 9, 7, 2}, [4]int{0, 0, 6, 0}, [4]int{1, top, 0, 1}, [4]int{2, 2, 5, 0}))},
	} {
		got, err := Invert(c.m)
		checkTurned(t, c.what, got, err, c.want)
		again, err := Invert(got)
		checkTurned(t, c.what+", twice", again, err, c.m)
	}
}

// P11.2
func TestReads(t *testing.T) {
	for _, c := range []struct {
		what    string
		m, want api.Machine
	}{
		{"nothing", machine(-1), machine(-1)},
		{"no arcs, no Start", machine(-1, state(7)), machine(-1, state(7))},
		{"simple", simple(), machine(0, state(inf, [4]int{1, 1, 3, 1}), state(0))},
		{"mixed", mixed(), machine(2,
			state(most, [4]int{5, 5, most, 1}, [4]int{5, 5, most, 1}, [4]int{0, 0, 1, 0}),
			state(4),
			state(inf, [4]int{9, 9, 7, 2}, [4]int{0, 0, 6, 0}, [4]int{top, top, 0, 1}, [4]int{2, 2, 5, 0}))},
	} {
		got, err := Reads(c.m)
		checkTurned(t, c.what, got, err, c.want)
	}
}

// P11.3
func TestWrites(t *testing.T) {
	for _, c := range []struct {
		what    string
		m, want api.Machine
	}{
		{"nothing", machine(-1), machine(-1)},
		{"no arcs, no Start", machine(-1, state(7)), machine(-1, state(7))},
		{"simple", simple(), machine(0, state(inf, [4]int{2, 2, 3, 1}), state(0))},
		{"mixed", mixed(), machine(2,
			state(most, [4]int{0, 0, most, 1}, [4]int{0, 0, most, 1}, [4]int{4, 4, 1, 0}),
			state(4),
			state(inf, [4]int{8, 8, 7, 2}, [4]int{0, 0, 6, 0}, [4]int{1, 1, 0, 1}, [4]int{2, 2, 5, 0}))},
	} {
		got, err := Writes(c.m)
		checkTurned(t, c.what, got, err, c.want)
	}
}

// P11.4
func TestReverse(t *testing.T) {
	for _, c := range []struct {
		what    string
		m, want api.Machine
	}{
		{"nothing", machine(-1), machine(0, state(inf))},
		{"simple", simple(), machine(0, state(inf, [4]int{0, 0, 0, 2}), state(0), state(inf, [4]int{1, 2, 3, 1}))},
		{"no Start: the ends are led to all the same", startingAt(simple(), -1), machine(0,
			state(inf, [4]int{0, 0, 0, 2}), state(inf), state(inf, [4]int{1, 2, 3, 1}))},
		{"one that ends for 0", machine(0, state(0)), machine(0, state(inf, [4]int{0, 0, 0, 1}), state(0))},
		{"one that ends for most", machine(0, state(most)), machine(0, state(inf, [4]int{0, 0, most, 1}), state(0))},
		{"one that can't end", machine(0, state(inf)), machine(0, state(inf), state(0))},
		{"arcs to itself stay in their order", machine(0, state(inf, [4]int{2, 1, 9, 0}, [4]int{1, 2, 8, 0}, [4]int{2, 1, 9, 0})), machine(0,
			state(inf), state(0, [4]int{2, 1, 9, 1}, [4]int{1, 2, 8, 1}, [4]int{2, 1, 9, 1}))},
		{"1, then 2", machine(0, state(inf, [4]int{1, 1, 4, 1}), state(inf, [4]int{2, 2, 5, 2}), state(6)), machine(0,
			state(inf, [4]int{0, 0, 6, 3}), state(0), state(inf, [4]int{1, 1, 4, 1}), state(inf, [4]int{2, 2, 5, 2}))},
		{"mixed", mixed(), machine(0,
			state(inf, [4]int{0, 0, most, 1}, [4]int{0, 0, 4, 2}),
			state(inf, [4]int{0, 4, 1, 1}, [4]int{0, 0, 6, 3}, [4]int{2, 2, 5, 3}),
			state(inf, [4]int{5, 0, most, 1}, [4]int{5, 0, most, 1}, [4]int{top, 1, 0, 3}),
			state(0, [4]int{9, 8, 7, 3}))},
		{"all of one state's arcs to one, from the last one on", machine(1,
			state(1, [4]int{3, 0, 0, 2}), state(2, [4]int{2, 0, 0, 2}, [4]int{1, 0, 0, 2}), state(3, [4]int{4, 0, 0, 2}, [4]int{0, 0, 0, 2})), machine(0,
			state(inf, [4]int{0, 0, 1, 1}, [4]int{0, 0, 2, 2}, [4]int{0, 0, 3, 3}),
			state(inf), state(0),
			state(inf, [4]int{3, 0, 0, 1}, [4]int{2, 0, 0, 2}, [4]int{1, 0, 0, 2}, [4]int{4, 0, 0, 3}, [4]int{0, 0, 0, 3}))},
	} {
		got, err := Reverse(c.m)
		checkTurned(t, c.what, got, err, c.want)
	}
}

// P11.4: as many as may be, and one more; the new state and the arcs to the ends count.
func TestFullReverses(t *testing.T) {
	all := api.MaxArcs
	for _, c := range []struct {
		what         string
		m            api.Machine
		want         api.Errno
		states, arcs int
	}{
		{"59 states", sized(59, 0), api.OK, 60, 0},
		{"60 states", sized(60, 0), api.ErrFull, 0, 0},
		{"60 states, no Start", startingAt(sized(60, 0), -1), api.ErrFull, 0, 0},
		{"59 states, all arcs", sized(59, all), api.OK, 60, all},
		{"all arcs, no end", sized(5, all), api.OK, 6, all},
		{"all arcs, an end", ending(sized(5, all), 1), api.ErrFull, 0, 0},
		{"all arcs, an end, no Start", startingAt(ending(sized(5, all), 1), -1), api.ErrFull, 0, 0},
		{"all but one arc, an end", ending(sized(5, all-1), 1), api.OK, 6, all},
		{"all but one arc, two ends", ending(sized(5, all-1), 2), api.ErrFull, 0, 0},
		{"all but 59 arcs, 59 ends", ending(sized(59, all-59), 59), api.OK, 60, all},
		{"all but 58 arcs, 59 ends", ending(sized(59, all-58), 59), api.ErrFull, 0, 0},
		{"all arcs in one state", sized(1, all), api.OK, 2, all},
		{"all states and all arcs", ending(sized(60, all), 60), api.ErrFull, 0, 0},
	} {
		got, err := Reverse(c.m)
		if c.want != api.OK {
			checkRefused(t, c.what, got, err, c.want)
			continue
		}
		if n, e := core.Count(got); err != api.OK || e != api.OK || n.States != c.states || n.Arcs != c.arcs {
			t.Errorf("%s: %v, %v, %v, want %d states and %d arcs", c.what, n, err, e, c.states, c.arcs)
		}
	}
}

// P11.1 to P11.3, P11.5: only Reverse may be full.
func TestAsGreatAsCanBe(t *testing.T) {
	m := ending(sized(api.MaxStates, api.MaxArcs), api.MaxStates)
	for _, f := range calls() {
		got, err := f.does(m)
		if f.name == "Reverse" {
			checkRefused(t, f.name, got, err, api.ErrFull)
			continue
		}
		n, e := core.Count(got)
		want := api.Counts{States: api.MaxStates, Arcs: api.MaxArcs, Finals: api.MaxStates}
		if err != api.OK || e != api.OK || n != want {
			t.Errorf("%s: %v, %v, %v, want %v", f.name, n, err, e, want)
		}
	}
}

// P11.5
func TestRelabel(t *testing.T) {
	pairs := func(arcs ...[2]int) api.Machine {
		s := api.State{Final: 5}
		for i, a := range arcs {
			s.Arcs = append(s.Arcs, api.Arc{In: a[0], Out: a[1], Weight: i, To: 1})
		}
		return machine(1, s, state(inf))
	}
	m := pairs([2]int{1, 2}, [2]int{2, 1}, [2]int{0, 3}, [2]int{3, 0}, [2]int{top, top}, [2]int{0, 0}, [2]int{1, 2})
	for _, c := range []struct {
		what      string
		ins, outs []api.Change
		want      api.Machine
	}{
		{"no changes", nil, nil, m},
		{"no changes, not nil", []api.Change{}, []api.Change{}, m},
		{"what is read", changed(1, 7), nil,
			pairs([2]int{7, 2}, [2]int{2, 1}, [2]int{0, 3}, [2]int{3, 0}, [2]int{top, top}, [2]int{0, 0}, [2]int{7, 2})},
		{"what is written", nil, changed(1, 7),
			pairs([2]int{1, 2}, [2]int{2, 7}, [2]int{0, 3}, [2]int{3, 0}, [2]int{top, top}, [2]int{0, 0}, [2]int{1, 2})},
		{"both, each by its own", changed(1, 7, 3, 8), changed(1, 9, 2, 6),
			pairs([2]int{7, 6}, [2]int{2, 9}, [2]int{0, 3}, [2]int{8, 0}, [2]int{top, top}, [2]int{0, 0}, [2]int{7, 6})},
		{"both, by the same", changed(1, 3), changed(1, 3),
			pairs([2]int{3, 2}, [2]int{2, 3}, [2]int{0, 3}, [2]int{3, 0}, [2]int{top, top}, [2]int{0, 0}, [2]int{3, 2})},
		{"not one behind the other", changed(1, 2, 2, 3, 3, 4), changed(3, 2, 2, 1, 1, top),
			pairs([2]int{2, 1}, [2]int{3, top}, [2]int{0, 2}, [2]int{4, 0}, [2]int{top, top}, [2]int{0, 0}, [2]int{2, 1})},
		{"not one behind the other, from behind", changed(3, 4, 2, 3, 1, 2), changed(1, top, 2, 1, 3, 2),
			pairs([2]int{2, 1}, [2]int{3, top}, [2]int{0, 2}, [2]int{4, 0}, [2]int{top, top}, [2]int{0, 0}, [2]int{2, 1})},
		{"exchanged", changed(1, 2, 2, 1), changed(2, 1, 1, 2),
			pairs([2]int{2, 1}, [2]int{1, 2}, [2]int{0, 3}, [2]int{3, 0}, [2]int{top, top}, [2]int{0, 0}, [2]int{2, 1})},
		{"to one and the same", changed(1, 5, 2, 5, 3, 5), nil,
			pairs([2]int{5, 2}, [2]int{5, 1}, [2]int{0, 3}, [2]int{5, 0}, [2]int{top, top}, [2]int{0, 0}, [2]int{5, 2})},
		{"to nothing", changed(1, 0, top, 0), changed(3, 0),
			pairs([2]int{0, 2}, [2]int{2, 1}, [2]int{0, 0}, [2]int{3, 0}, [2]int{0, top}, [2]int{0, 0}, [2]int{0, 2})},
		{"to itself", changed(1, 1), changed(2, 2), m},
		{"labels that are nowhere", changed(50, 1), changed(60, 2), m},
		{"the highest ones", changed(top, 1, 1, top), changed(top, top),
			pairs([2]int{top, 2}, [2]int{2, 1}, [2]int{0, 3}, [2]int{3, 0}, [2]int{1, top}, [2]int{0, 0}, [2]int{top, 2})},
		{"as many as may be", upward(api.MaxRelabel), upward(api.MaxRelabel),
			pairs([2]int{2, 3}, [2]int{3, 2}, [2]int{0, 4}, [2]int{4, 0}, [2]int{top, top}, [2]int{0, 0}, [2]int{2, 3})},
	} {
		got, err := Relabel(m, c.ins, c.outs)
		checkTurned(t, c.what, got, err, c.want)
	}
	got, err := Relabel(machine(-1), changed(1, 2), changed(1, 2))
	checkTurned(t, "nothing", got, err, machine(-1))
	got, err = Relabel(mixed(), changed(9, 3), changed(4, 0))
	want := mixed()
	want.States[2].Arcs[0].In, want.States[0].Arcs[2].Out = 3, 0
	checkTurned(t, "mixed", got, err, want)
}

type wrongChanges struct {
	what string
	list []api.Change
	want api.Errno
}

// allWrong: lists with one fault, and with several, of which the first one named counts.
func allWrong() []wrongChanges {
	limit := api.MaxRelabel
	l := []wrongChanges{
		{"one too many", upward(limit + 1), api.ErrSize},
		{"far too many", make([]api.Change, 5000), api.ErrSize},
		{"one too many, a From that may not be", append(upward(limit), api.Change{From: -1}), api.ErrSize},
		{"one too many, two of one From", append(upward(limit), api.Change{From: 1}), api.ErrSize},
		{"the last one of all may not be", append(upward(limit-1), api.Change{From: 0, To: 1}), api.ErrRange},
		{"two of one From", changed(1, 2, 1, 3), api.ErrTwice},
		{"two that are the same", changed(top, top, top, top), api.ErrTwice},
		{"the first one and the last one of all", append(upward(limit-1), api.Change{From: 1, To: 1}), api.ErrTwice},
		{"two of one From, then a From that may not be", changed(1, 2, 1, 2, 0, 1), api.ErrRange},
		{"two of one From, then a To that may not be", changed(1, 2, 1, 2, 3, -1), api.ErrRange},
		{"two of a From that may not be", changed(0, 1, 0, 1), api.ErrRange},
	}
	for _, n := range []int{math.MinInt, math.MaxInt, -1 << 32, 1<<32 + 1, -1, 0, top + 1} {
		l = append(l, wrongChanges{"From " + strconv.Itoa(n), changed(4, 5, n, 1), api.ErrRange})
		if n != 0 {
			l = append(l, wrongChanges{"To " + strconv.Itoa(n), changed(1, n, 4, 5), api.ErrRange})
		}
	}
	return l
}

// P11.5
func TestRelabelRefuses(t *testing.T) {
	for _, m := range []api.Machine{simple(), machine(-1), sized(api.MaxStates, api.MaxArcs)} {
		for _, c := range allWrong() {
			for _, right := range [][]api.Change{nil, changed(1, 2), upward(api.MaxRelabel)} {
				got, err := Relabel(m, c.list, right)
				checkRefused(t, "ins: "+c.what, got, err, c.want)
				got, err = Relabel(m, right, c.list)
				checkRefused(t, "outs: "+c.what, got, err, c.want)
			}
			for _, other := range allWrong() {
				got, err := Relabel(m, c.list, other.list)
				checkRefused(t, "ins: "+c.what+"; outs: "+other.what, got, err, c.want)
			}
		}
	}
}

// P11.5: both lists may be as long as may be, and may have the same From.
func TestListsOfChangesAreApart(t *testing.T) {
	ins, outs := upward(api.MaxRelabel), changed(1, 7)
	got, err := Relabel(machine(0, state(0, [4]int{1, 1, 0, 0})), ins, outs)
	checkTurned(t, "the same From in both", got, err, machine(0, state(0, [4]int{2, 7, 0, 0})))
}

type wrongMachine struct {
	what    string
	machine api.Machine
}

func wrongMachines() []wrongMachine {
	l := []wrongMachine{
		{"no states, Start 0", api.Machine{}},
		{"no states, Start 1", api.Machine{Start: 1}},
		{"a state too many", sized(api.MaxStates+1, 0)},
		{"an arc too many", sized(5, api.MaxArcs+1)},
		{"a state too many, no such Start", startingAt(sized(api.MaxStates+1, 0), -2)},
		{"as many states as may be, no such Start", startingAt(sized(api.MaxStates, 0), -2)},
		{"as many arcs as may be, no such Start", startingAt(ending(sized(5, api.MaxArcs), 5), 5)},
	}
	add := func(what string, n int, do func(m *api.Machine)) {
		m := mixed()
		do(&m)
		l = append(l, wrongMachine{what + " " + strconv.Itoa(n), m})
	}
	for _, n := range []int{math.MinInt, math.MaxInt, -2, inf + 1} {
		add("Start", n, func(m *api.Machine) { m.Start = n })
		add("Final", n, func(m *api.Machine) { m.States[1].Final = n })
		add("In", n, func(m *api.Machine) { m.States[2].Arcs[1].In = n })
		add("Out", n, func(m *api.Machine) { m.States[2].Arcs[1].Out = n })
		add("Weight", n, func(m *api.Machine) { m.States[2].Arcs[1].Weight = n })
		add("To", n, func(m *api.Machine) { m.States[2].Arcs[1].To = n })
	}
	add("Start", 3, func(m *api.Machine) { m.Start = 3 })
	add("Final", -1, func(m *api.Machine) { m.States[0].Final = -1 })
	add("In", top+1, func(m *api.Machine) { m.States[0].Arcs[0].In = top + 1 })
	add("Out", top+1, func(m *api.Machine) { m.States[0].Arcs[0].Out = top + 1 })
	add("Weight", inf, func(m *api.Machine) { m.States[0].Arcs[0].Weight = inf })
	add("To", 3, func(m *api.Machine) { m.States[2].Arcs[2].To = 3 })
	add("To", -1, func(m *api.Machine) { m.States[0].Arcs[0].To = -1 })
	return l
}

// P4.1: a machine that is not right is refused ahead of all else, also ahead of changes that are wrong.
func TestMachinesThatAreNotRightAreRefused(t *testing.T) {
	for _, c := range wrongMachines() {
		want := core.Check(c.machine)
		if want == api.OK {
			t.Errorf("%s: the machine is right", c.what)
		}
		for _, f := range calls() {
			got, err := f.does(c.machine)
			checkRefused(t, f.name+": "+c.what, got, err, want)
		}
		for _, w := range allWrong() {
			got, err := Relabel(c.machine, w.list, nil)
			checkRefused(t, c.what+"; ins: "+w.what, got, err, want)
			got, err = Relabel(c.machine, nil, w.list)
			checkRefused(t, c.what+"; outs: "+w.what, got, err, want)
		}
	}
}

// P11.5: a label that is changed to one that may be does not make a wrong machine right.
func TestChangesDoNotMend(t *testing.T) {
	m := machine(0, state(0, [4]int{top + 1, 1, 0, 0}))
	got, err := Relabel(m, changed(top, 1), nil)
	checkRefused(t, "a label too high", got, err, api.ErrRange)
}
