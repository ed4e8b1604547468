package arrange

import (
	"math"
	"reflect"
	"slices"
	"strconv"
	"testing"

	"tropica/api"
	"tropica/core"
)

const (
	most = api.MaxWeight
	inf  = api.Inf
)

// face: a call of this package, and the order that it should leave, by the words of its promise.
type face struct {
	name   string
	call   func(api.Machine) (api.Machine, api.Errno)
	ahead  func(a, b api.Arc) bool
	merges bool
}

func faces() []face {
	return []face{
		{"Sorted", Sorted, aheadByIn, false},
		{"ByOut", ByOut, aheadByOut, false},
		{"Merged", Merged, aheadByIn, true},
	}
}

func aheadByIn(a, b api.Arc) bool {
	switch {
	case a.In != b.In:
		return a.In < b.In
	case a.Out != b.Out:
		return a.Out < b.Out
	case a.To != b.To:
		return a.To < b.To
	}
	return a.Weight < b.Weight
}

func aheadByOut(a, b api.Arc) bool {
	switch {
	case a.Out != b.Out:
		return a.Out < b.Out
	case a.In != b.In:
		return a.In < b.In
	case a.To != b.To:
		return a.To < b.To
	}
	return a.Weight < b.Weight
}

// one state of three that has these arcs; the others have none.
func one(arcs ...api.Arc) api.Machine {
	return api.Machine{Start: 1, States: []api.State{{Final: inf}, {Final: 7, Arcs: arcs}, {}}}
}

// looped: n states, each with that many arcs to itself, the last of which should stand first.
func looped(n, arcs int) api.Machine {
	m := api.Machine{States: make([]api.State, n)}
	for q := range m.States {
		for i := range arcs {
			m.States[q].Arcs = append(m.States[q].Arcs, api.Arc{In: arcs - i, Out: arcs - i, To: q})
		}
	}
	return m
}

func copied(m api.Machine) api.Machine {
	m.States = slices.Clone(m.States)
	for q := range m.States {
		m.States[q].Arcs = slices.Clone(m.States[q].Arcs)
	}
	return m
}

// equal: an empty list may be nil or not.
func equal(a, b api.Machine) bool {
	return a.Start == b.Start && slices.EqualFunc(a.States, b.States, func(s, r api.State) bool {
		return s.Final == r.Final && slices.Equal(s.Arcs, r.Arcs)
	})
}

func check(t *testing.T, what string, call func(api.Machine) (api.Machine, api.Errno), m, want api.Machine) {
	t.Helper()
	if got, err := call(m); err != api.OK || !equal(got, want) {
		t.Errorf("%s: %v became %v, %v, want %v", what, m, got, err, want)
	}
}

// P5.1: of two neighbours in this list the former one stands ahead, by what is told.
func TestSortedGoesByTheOrder(t *testing.T) {
	checkOrder(t, "Sorted", Sorted, []api.Arc{
		{},
		{Weight: 1},                       // by Weight
		{To: 1},                           // by To, ahead of Weight
		{Weight: most, To: 1},             // by Weight
		{Out: 1},                          // by Out, ahead of To and Weight
		{Out: 1, Weight: 2, To: 1},        // by To
		{Out: 2, Weight: 1},               // by Out
		{Out: 10},                         // by Out, as a number
		{Out: api.MaxLabel, To: 2},        // by Out
		{In: 1},                           // by In, ahead of all others
		{In: 1, Out: 1, Weight: 5, To: 1}, // by Out
		{In: 1, Out: 1, Weight: 1, To: 2}, // by To, ahead of Weight
		{In: 1, Out: 1, Weight: 3, To: 2}, // by Weight
		{In: 2, Out: 1, Weight: 1},        // by In
		{In: 10, Out: 0, Weight: 0},       // by In, as a number
		{In: api.MaxLabel},                // by In
	})
}

// P5.2
func TestByOutGoesByOutFirst(t *testing.T) {
	checkOrder(t, "ByOut", ByOut, []api.Arc{
		{},
		{Weight: 1},                       // by Weight
		{To: 1},                           // by To, ahead of Weight
		{Weight: most, To: 1},             // by Weight
		{In: 1},                           // by In, ahead of To and Weight
		{In: 1, Weight: 2, To: 1},         // by To
		{In: 2, Weight: 1},                // by In
		{In: 10},                          // by In, as a number
		{In: api.MaxLabel, To: 2},         // by In
		{Out: 1},                          // by Out, ahead of all others
		{In: 1, Out: 1, Weight: 5, To: 1}, // by In
		{In: 1, Out: 1, Weight: 1, To: 2}, // by To, ahead of Weight
		{In: 1, Out: 1, Weight: 3, To: 2}, // by Weight
		{In: 1, Out: 2, Weight: 1},        // by Out
		{In: 0, Out: 10, Weight: 0},       // by Out, as a number
		{Out: api.MaxLabel},               // by Out
	})
}

// checkOrder: each two of the list, and all of it, come out as they stand there.
func checkOrder(t *testing.T, what string, call func(api.Machine) (api.Machine, api.Errno), ordered []api.Arc) {
	t.Helper()
	for i, b := range ordered {
		for _, a := range ordered[:i+1] {
			check(t, what, call, one(a, b), one(a, b))
			check(t, what, call, one(b, a), one(a, b))
		}
	}
	behind := slices.Clone(ordered)
	slices.Reverse(behind)
	check(t, what, call, one(ordered...), one(ordered...))
	check(t, what, call, one(behind...), one(ordered...))
	check(t, what, call, one(append(behind[8:], behind[:8]...)...), one(ordered...))
}

// P5.1 and P5.2: arcs that are the same stay, all of them.
func TestTheSameArcsStay(t *testing.T) {
	x, y := api.Arc{In: 1, Out: 1, Weight: 2, To: 1}, api.Arc{In: 2, Out: 2, Weight: 2, To: 1}
	check(t, "Sorted", Sorted, one(y, x, y, x, x), one(x, x, x, y, y))
	check(t, "ByOut", ByOut, one(y, x, y, x, x), one(x, x, x, y, y))
}

// P5.3
func TestMerged(t *testing.T) {
	arc := func(in, out, weight, to int) api.Arc { return api.Arc{In: in, Out: out, Weight: weight, To: to} }
	for _, c := range []struct {
		what       string
		arcs, want []api.Arc
	}{
		{"the chapter's", []api.Arc{arc(1, 2, 5, 0), arc(1, 2, 3, 0), arc(1, 1, 9, 0)}, []api.Arc{arc(1, 1, 9, 0), arc(1, 2, 3, 0)}},
		{"none", nil, nil},
		{"one", []api.Arc{arc(1, 2, 5, 0)}, []api.Arc{arc(1, 2, 5, 0)}},
		{"the same", []api.Arc{arc(1, 2, 5, 0), arc(1, 2, 5, 0), arc(1, 2, 5, 0)}, []api.Arc{arc(1, 2, 5, 0)}},
		{"lightest ahead", []api.Arc{arc(1, 2, 0, 0), arc(1, 2, 1, 0)}, []api.Arc{arc(1, 2, 0, 0)}},
		{"lightest behind", []api.Arc{arc(1, 2, most, 0), arc(1, 2, 1, 0)}, []api.Arc{arc(1, 2, 1, 0)}},
		{"lightest between", []api.Arc{arc(1, 2, 9, 0), arc(1, 2, 1, 0), arc(1, 2, 10, 0)}, []api.Arc{arc(1, 2, 1, 0)}},
		{"others between", []api.Arc{arc(1, 2, 9, 0), arc(3, 2, 1, 0), arc(1, 2, 4, 0)}, []api.Arc{arc(1, 2, 4, 0), arc(3, 2, 1, 0)}},
		{"other In", []api.Arc{arc(2, 2, 1, 0), arc(1, 2, 9, 0)}, []api.Arc{arc(1, 2, 9, 0), arc(2, 2, 1, 0)}},
		{"other Out", []api.Arc{arc(1, 2, 1, 0), arc(1, 1, 1, 0)}, []api.Arc{arc(1, 1, 1, 0), arc(1, 2, 1, 0)}},
		{"other To", []api.Arc{arc(1, 2, 1, 2), arc(1, 2, 9, 0), arc(1, 2, 1, 1)}, []api.Arc{arc(1, 2, 9, 0), arc(1, 2, 1, 1), arc(1, 2, 1, 2)}},
		{"labels the other way round", []api.Arc{arc(2, 1, 1, 0), arc(1, 2, 1, 0)}, []api.Arc{arc(1, 2, 1, 0), arc(2, 1, 1, 0)}},
		{"empty ones", []api.Arc{arc(0, 0, 3, 1), arc(0, 0, 2, 1), arc(0, 0, 1, 2)}, []api.Arc{arc(0, 0, 2, 1), arc(0, 0, 1, 2)}},
	} {
		check(t, c.what, Merged, one(c.arcs...), one(c.want...))
	}
}

// P5.3: arcs of other states are not alike.
func TestMergedLeavesEachStateItsArcs(t *testing.T) {
	light, dear := api.Arc{In: 1, Out: 1, Weight: 1}, api.Arc{In: 1, Out: 1, Weight: 2}
	m := api.Machine{States: []api.State{{Arcs: []api.Arc{dear, dear}}, {Arcs: []api.Arc{light}}, {Arcs: []api.Arc{dear, light}}}}
	want := api.Machine{States: []api.State{{Arcs: []api.Arc{dear}}, {Arcs: []api.Arc{light}}, {Arcs: []api.Arc{light}}}}
	check(t, "Merged", Merged, m, want)
}

// P5.3: all arcs that may be are alike.
func TestMergedOfAsManyArcsAsMayBe(t *testing.T) {
	m := one()
	for i := range api.MaxArcs {
		m.States[1].Arcs = append(m.States[1].Arcs, api.Arc{In: 3, Out: 4, Weight: (i*7 + 5) % api.MaxArcs, To: 2})
	}
	check(t, "Merged", Merged, m, one(api.Arc{In: 3, Out: 4, To: 2}))
}

// P5.1 to P5.3: Start, the Finals, and how many states there are.
func TestAllElseIsAsItWas(t *testing.T) {
	many := looped(api.MaxStates, 0)
	for q := range many.States {
		many.States[q].Final = q
	}
	x := api.Arc{In: 1, Out: 1, Weight: 3, To: 2}
	for _, f := range faces() {
		for start := -1; start < 3; start++ {
			m := one(x)
			m.Start = start
			check(t, f.name, f.call, m, m)
		}
		ends := api.Machine{Start: -1, States: []api.State{{Final: inf}, {Final: most}, {Final: 0}, {Final: 1}}}
		check(t, f.name, f.call, ends, ends)
		check(t, f.name, f.call, many, many)
		check(t, f.name, f.call, api.Machine{Start: -1}, api.Machine{Start: -1})
		check(t, f.name, f.call, api.Machine{Start: -1, States: []api.State{}}, api.Machine{Start: -1})
		check(t, f.name, f.call, api.Machine{States: []api.State{{Arcs: []api.Arc{}}}}, api.Machine{States: []api.State{{}}})
	}
}

// told: what a call should leave, by the words of the promises: the arc that stands behind none of the others, again and again.
func told(f face, m api.Machine) api.Machine {
	m = copied(m)
	for q := range m.States {
		var list []api.Arc
		for left := m.States[q].Arcs; len(left) > 0; {
			first := 0
			for i := range left {
				if f.ahead(left[i], left[first]) {
					first = i
				}
			}
			a := left[first]
			left = slices.Delete(left, first, first+1)
			again := slices.ContainsFunc(list, func(b api.Arc) bool { return a.In == b.In && a.Out == b.Out && a.To == b.To })
			if !f.merges || !again {
				list = append(list, a)
			}
		}
		m.States[q].Arcs = list
	}
	return m
}

// drawn: a machine of small numbers, the same one for each seed.
func drawn(seed uint64) api.Machine {
	draw := func(most int) int {
		seed = seed*6364136223846793005 + 1442695040888963407
		return int((seed >> 33) % uint64(most))
	}
	n := 1 + draw(4)
	m := api.Machine{Start: draw(n+1) - 1, States: make([]api.State, n)}
	for q := range m.States {
		m.States[q].Final = []int{0, inf, 3}[draw(3)]
		for range draw(3) * draw(10) {
			a := api.Arc{In: draw(3), Out: draw(3), Weight: draw(4), To: draw(n)}
			m.States[q].Arcs = append(m.States[q].Arcs, a)
		}
	}
	return m
}

// P5.1 to P5.3; what comes out is right, and Sorted by P4.3.
func TestManyMachines(t *testing.T) {
	for seed := range uint64(1000) {
		m := drawn(seed)
		for _, f := range faces() {
			check(t, f.name, f.call, m, told(f, m))
			got, _ := f.call(m)
			if bits, err := core.Bits(got); err != api.OK || f.name != "ByOut" && !bits.Sorted {
				t.Errorf("%s of %v: Bits are %v, %v", f.name, m, bits, err)
			}
			check(t, f.name+", again", f.call, got, got)
		}
	}
}

type wrongMachine struct {
	what    string
	machine api.Machine
}

func wrongMachines() []wrongMachine {
	arcs := looped(2, api.MaxArcs/2)
	arcs.States[1].Arcs = append(arcs.States[1].Arcs, api.Arc{})
	both := looped(api.MaxStates+1, 1)
	both.Start = -2
	l := []wrongMachine{
		{"no states, Start 0", api.Machine{}},
		{"no states, Start 1", api.Machine{Start: 1}},
		{"a state too many", looped(api.MaxStates+1, 0)},
		{"an arc too many", looped(1, api.MaxArcs+1)},
		{"an arc too many in all", arcs},
		{"a state too many, no such Start", both},
	}
	add := func(what string, n int, do func(m *api.Machine)) {
		m := one(api.Arc{In: 2}, api.Arc{In: 1})
		do(&m)
		l = append(l, wrongMachine{what + " " + strconv.Itoa(n), m})
	}
	for _, n := range []int{math.MinInt, math.MaxInt, -2, inf + 1} {
		add("Start", n, func(m *api.Machine) { m.Start = n })
		add("Final", n, func(m *api.Machine) { m.States[2].Final = n })
		add("In", n, func(m *api.Machine) { m.States[1].Arcs[1].In = n })
		add("Out", n, func(m *api.Machine) { m.States[1].Arcs[1].Out = n })
		add("Weight", n, func(m *api.Machine) { m.States[1].Arcs[1].Weight = n })
		add("To", n, func(m *api.Machine) { m.States[1].Arcs[1].To = n })
	}
	add("Start", 3, func(m *api.Machine) { m.Start = 3 })
	add("Final", -1, func(m *api.Machine) { m.States[0].Final = -1 })
	add("In", api.MaxLabel+1, func(m *api.Machine) { m.States[1].Arcs[0].In = api.MaxLabel + 1 })
	add("Out", api.MaxLabel+1, func(m *api.Machine) { m.States[1].Arcs[0].Out = api.MaxLabel + 1 })
	add("Weight", inf, func(m *api.Machine) { m.States[1].Arcs[0].Weight = inf })
	add("To", 3, func(m *api.Machine) { m.States[1].Arcs[0].To = 3 })
	return l
}

// P5.1 to P5.3, with P4.1
func TestMachinesThatAreNotRightAreRefused(t *testing.T) {
	for _, c := range wrongMachines() {
		want := core.Check(c.machine)
		if want == api.OK {
			t.Errorf("%s: the machine is right", c.what)
		}
		for _, f := range faces() {
			if got, err := f.call(c.machine); err != want || got.Start != 0 || len(got.States) != 0 {
				t.Errorf("%s: %s is %v, %v, want nothing, %v", c.what, f.name, got, err, want)
			}
		}
	}
}

// What is handed in stays as it is, the spare room of its lists too, and does not count.
func TestMachinesStayAsTheyAre(t *testing.T) {
	wrong := api.Arc{In: -1, Out: -1, Weight: -1, To: -1}
	x, y := api.Arc{In: 2, Weight: 5}, api.Arc{In: 1, Weight: 4}
	for _, f := range faces() {
		arcs := []api.Arc{x, x, y, y, wrong, wrong}
		states := []api.State{{Final: 3, Arcs: arcs[:4]}, {Final: -1, Arcs: arcs[2:]}}
		got, err := f.call(api.Machine{States: states[:1]})
		want := []api.Arc{y, y, x, x}
		if f.merges {
			want = []api.Arc{y, x}
		}
		if err != api.OK || len(got.States) != 1 || !slices.Equal(got.States[0].Arcs, want) {
			t.Errorf("%s is %v, %v, want the arcs %v", f.name, got, err, want)
		}
		if !slices.Equal(arcs, []api.Arc{x, x, y, y, wrong, wrong}) {
			t.Errorf("%s: the arcs became %v", f.name, arcs)
		}
		if !reflect.DeepEqual(states, []api.State{{Final: 3, Arcs: arcs[:4]}, {Final: -1, Arcs: arcs[2:]}}) {
			t.Errorf("%s: the states became %v", f.name, states)
		}
	}
}

// fill writes over all that an answer has, the spare room too.
func fill(m api.Machine) {
	for _, s := range m.States {
		arcs := s.Arcs[:cap(s.Arcs)]
		for i := range arcs {
			arcs[i] = api.Arc{In: -7, Out: -7, Weight: -7, To: -7}
		}
	}
	states := m.States[:cap(m.States)]
	for q := range states {
		states[q] = api.State{Final: -7}
	}
}

// An answer is new memory: what is written over it is seen nowhere else.
func TestAnswersAreNewMemory(t *testing.T) {
	x, y := api.Arc{In: 1}, api.Arc{In: 1, Weight: 1}
	all := []api.Arc{x, x, y, y, y, x}
	m := api.Machine{States: []api.State{{Arcs: all[:2]}, {Arcs: all[2:5]}, {Arcs: all}, {Arcs: all[:0]}}}
	for _, f := range faces() {
		checkMemory(t, f, m)
		checkMemory(t, f, looped(20, 1))
		checkMemory(t, f, looped(20, 3))
	}
}

func checkMemory(t *testing.T, f face, m api.Machine) {
	t.Helper()
	kept := copied(m)
	first, _ := f.call(m)
	second, _ := f.call(m)
	want := copied(second)
	fill(first)
	if !equal(m, kept) {
		t.Errorf("%s shares memory with what was handed in: %v", f.name, m)
	}
	if !equal(second, want) {
		t.Errorf("%s shares memory with another answer: %v", f.name, second)
	}
	for q := range second.States {
		fill(api.Machine{States: second.States[q : q+1 : q+1]})
		for r := q + 1; r < len(second.States); r++ {
			if !slices.Equal(second.States[r].Arcs, want.States[r].Arcs) {
				t.Errorf("%s: states %d and %d share memory", f.name, q, r)
			}
		}
	}
}

// One list of arcs may stand in two states: each gets its own.
func TestStatesThatShareTheirArcs(t *testing.T) {
	arcs := []api.Arc{{In: 2}, {In: 1}, {In: 1}}
	m := api.Machine{States: []api.State{{Arcs: arcs}, {Arcs: arcs}, {Arcs: arcs[1:]}}}
	for _, f := range faces() {
		check(t, f.name, f.call, m, told(f, m))
	}
}
