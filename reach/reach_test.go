package reach

import (
	"math"
	"reflect"
	"slices"
	"strconv"
	"testing"

	"tropica/api"
	"tropica/core"
)

const inf = api.Inf

// to: an arc that leads there, and does not look like any other one.
func to(q int) api.Arc { return api.Arc{In: 1 + q, Out: 2 + q, Weight: 3 + q, To: q} }

// state that ends for this much, with arcs that lead to these states.
func state(final int, leads ...int) api.State {
	s := api.State{Final: final}
	for _, q := range leads {
		s.Arcs = append(s.Arcs, to(q))
	}
	return s
}

// ending: a state that ends for this much, with these arcs.
func ending(final int, arcs ...api.Arc) api.State { return api.State{Final: final, Arcs: arcs} }

func machine(start int, states ...api.State) api.Machine {
	return api.Machine{Start: start, States: states}
}

// chained: n states, each of which leads to the next one, the last of which can end.
func chained(n int) api.Machine {
	m := api.Machine{States: make([]api.State, n)}
	for q := range m.States {
		m.States[q] = state(inf, q+1)
	}
	m.States[n-1] = state(5)
	return m
}

// looped: n states that can end, the one leads to the next and back, and each to itself, arcs-2 times.
func looped(n, arcs int) api.Machine {
	m := api.Machine{States: make([]api.State, n)}
	for q := range m.States {
		m.States[q] = state(q, (q+1)%n, (q+n-1)%n)
		for i := range arcs - 2 {
			m.States[q].Arcs = append(m.States[q].Arcs, api.Arc{In: i, To: q})
		}
	}
	return m
}

// behind: the states from the last one to the first one; the arcs stay in their order.
func behind(m api.Machine) api.Machine {
	m = copied(m)
	last := len(m.States) - 1
	m.Start = last - m.Start
	slices.Reverse(m.States)
	for _, s := range m.States {
		for i := range s.Arcs {
			s.Arcs[i].To = last - s.Arcs[i].To
		}
	}
	return m
}

func copied(m api.Machine) api.Machine {
	m.States = slices.Clone(m.States)
	for q := range m.States {
		m.States[q].Arcs = slices.Clone(m.States[q].Arcs)
	}
	return m
}

// equal: an empty list may be nil or not.
func equal(a, b api.Machine) bool {
	return a.Start == b.Start && slices.EqualFunc(a.States, b.States, func(s, r api.State) bool {
		return s.Final == r.Final && slices.Equal(s.Arcs, r.Arcs)
	})
}

// which: the text has a 1 for each state of which it holds.
func which(text string) []bool {
	list := make([]bool, len(text))
	for q := range list {
		list[q] = text[q] == '1'
	}
	return list
}

func check(t *testing.T, what string, m api.Machine, ahead, back []bool, trimmed api.Machine) {
	t.Helper()
	if got, err := Ahead(m); err != api.OK || !slices.Equal(got, ahead) {
		t.Errorf("%s: Ahead of %v is %v, %v, want %v", what, m, got, err, ahead)
	}
	if got, err := Back(m); err != api.OK || !slices.Equal(got, back) {
		t.Errorf("%s: Back of %v is %v, %v, want %v", what, m, got, err, back)
	}
	if got, err := Trim(m); err != api.OK || !equal(got, trimmed) {
		t.Errorf("%s: Trim of %v is %v, %v, want %v", what, m, got, err, trimmed)
	}
}

// P6.1 to P6.3
func TestMachines(t *testing.T) {
	nothing := machine(-1)
	for _, c := range []struct {
		what        string
		machine     api.Machine
		ahead, back string
		trimmed     api.Machine
	}{
		{"no states", machine(-1), "", "", nothing},
		{"ends nowhere", machine(0, state(inf)), "1", "0", nothing},
		{"ends nowhere, with arcs", machine(0, state(inf, 1, 0), state(inf, 0)), "11", "00", nothing},
		{"one that can end", machine(0, state(0)), "1", "1", machine(0, state(0))},
		{"one that can end for most", machine(0, state(api.MaxWeight)), "1", "1", machine(0, state(api.MaxWeight))},
		{"one with itself", machine(0, state(0, 0)), "1", "1", machine(0, state(0, 0))},
		{"one with itself, no end", machine(0, state(inf, 0)), "1", "0", nothing},
		{"no Start", machine(-1, state(0, 0)), "0", "1", nothing},
		{"no Start, arcs from each to each", machine(-1, state(0, 0, 1), state(1, 0, 1)), "00", "11", nothing},
		{"the chapter's two", machine(0, state(inf, 1), state(0)), "11", "11", machine(0, state(inf, 1), state(0))},
		{"against the arc", machine(1, state(0, 1), state(inf)), "01", "10", nothing},
		{"the last one starts", machine(1, state(0), state(inf, 0)), "11", "11", machine(1, state(0), state(inf, 0))},
		{"two that can end, not led to", machine(0, state(0), state(0)), "10", "11", machine(0, state(0))},
		{"Start gets another number", machine(1, state(0, 1), state(4, 1)), "01", "11", machine(0, ending(4, api.Arc{In: 2, Out: 3, Weight: 4, To: 0}))},
		{"Start does not lead to an end", machine(1, state(0), state(inf, 2), state(inf, 1)), "011", "100", nothing},
		{"a dead end", machine(0, state(inf, 1, 2), state(inf), state(6)), "111", "101", machine(0, ending(inf, api.Arc{In: 3, Out: 4, Weight: 5, To: 1}), state(6))},
		{"a ring that is not left", machine(0, state(1, 1), state(inf, 2), state(inf, 1)), "111", "100", machine(0, state(1))},
		{"a ring that is left", machine(0, state(inf, 1), state(inf, 2), state(inf, 0, 3), state(1)), "1111", "1111", machine(0, state(inf, 1), state(inf, 2), state(inf, 0, 3), state(1))},
		{"a ring that is not led to", machine(0, state(1), state(inf, 2), state(inf, 1, 0)), "100", "111", machine(0, state(1))},
		{"both behind Start, one for each", machine(2, state(inf), state(8, 0), state(inf, 0, 1)), "111", "011", machine(1, state(8), ending(inf, api.Arc{In: 2, Out: 3, Weight: 4, To: 0}))},
	} {
		check(t, c.what, c.machine, which(c.ahead), which(c.back), c.trimmed)
	}
}

// P6.3: the states that are left keep their order and their Finals; the arcs their order, labels and weights, those that are the same too.
func TestTrimLeavesTheOrder(t *testing.T) {
	m := machine(2,
		ending(7, api.Arc{In: 1, Out: 9, Weight: 4, To: 5}, api.Arc{To: 0}, api.Arc{In: 3, Weight: 2, To: 2}),
		ending(0, api.Arc{In: 1, To: 2}, api.Arc{In: 1, To: 0}),
		ending(inf, api.Arc{In: 9, To: 5}, api.Arc{In: 5, To: 3}, api.Arc{Out: 1, To: 0}, api.Arc{Out: 1, To: 0}, api.Arc{In: 9, Weight: 9, To: 3}, api.Arc{In: 1, Weight: 8, To: 5}),
		ending(inf, api.Arc{In: 2, To: 3}, api.Arc{To: 4}),
		ending(inf),
		ending(1, api.Arc{In: 2, Out: 3, Weight: api.MaxWeight, To: 2}, api.Arc{In: api.MaxLabel, Out: api.MaxLabel, To: 5}, api.Arc{To: 4}),
	)
	want := machine(1,
		ending(7, api.Arc{In: 1, Out: 9, Weight: 4, To: 2}, api.Arc{To: 0}, api.Arc{In: 3, Weight: 2, To: 1}),
		ending(inf, api.Arc{In: 9, To: 2}, api.Arc{Out: 1, To: 0}, api.Arc{Out: 1, To: 0}, api.Arc{In: 1, Weight: 8, To: 2}),
		ending(1, api.Arc{In: 2, Out: 3, Weight: api.MaxWeight, To: 1}, api.Arc{In: api.MaxLabel, Out: api.MaxLabel, To: 2}),
	)
	check(t, "six states", m, which("101111"), which("111001"), want)
}

// P6.1 to P6.3: as many states, and as many arcs, as may be.
func TestGreatMachines(t *testing.T) {
	all := slices.Repeat([]bool{true}, api.MaxStates)
	for _, m := range []api.Machine{chained(api.MaxStates), looped(api.MaxStates, 6)} {
		check(t, "great", m, all, all, m)
		check(t, "great, from behind", behind(m), all, all, behind(m))
		m = copied(m)
		m.Start = -1
		check(t, "great, no Start", m, make([]bool, api.MaxStates), all, machine(-1))
	}
	endless := chained(api.MaxStates)
	endless.States[api.MaxStates-1].Final = inf
	check(t, "chained, no end", endless, all, make([]bool, api.MaxStates), machine(-1))
	early := chained(api.MaxStates)
	early.States[0].Final = 3
	early.States[api.MaxStates-1].Final = inf
	check(t, "chained, the first one ends", early, all, append([]bool{true}, make([]bool, api.MaxStates-1)...), machine(0, state(3)))

	many := machine(0, state(2), state(inf), state(inf))
	for i := range api.MaxArcs {
		many.States[0].Arcs = append(many.States[0].Arcs, api.Arc{In: i, To: i % 2})
	}
	want := machine(0, state(2))
	for i := range api.MaxArcs / 2 {
		want.States[0].Arcs = append(want.States[0].Arcs, api.Arc{In: 2 * i})
	}
	check(t, "many arcs", many, which("110"), which("100"), want)
}

// told: which states a rule leads to from those that hold at first, by going over all arcs as often as there are states.
func told(m api.Machine, holds []bool, rule func(from, to int)) []bool {
	for range m.States {
		for q, s := range m.States {
			for _, a := range s.Arcs {
				rule(q, a.To)
			}
		}
	}
	return holds
}

func toldAhead(m api.Machine) []bool {
	holds := make([]bool, len(m.States))
	for q := range holds {
		holds[q] = q == m.Start
	}
	return told(m, holds, func(from, to int) { holds[to] = holds[to] || holds[from] })
}

func toldBack(m api.Machine) []bool {
	holds := make([]bool, len(m.States))
	for q, s := range m.States {
		holds[q] = s.Final != inf
	}
	return told(m, holds, func(from, to int) { holds[from] = holds[from] || holds[to] })
}

// toldTrim takes away one state that does not hold after the other, and counts those behind it one less.
func toldTrim(m api.Machine) api.Machine {
	m = copied(m)
	for {
		ahead, back := toldAhead(m), toldBack(m)
		gone := 0
		for gone < len(ahead) && ahead[gone] && back[gone] {
			gone++
		}
		if gone == len(ahead) {
			return m
		}
		m.Start = without(m.Start, gone)
		m.States = slices.Delete(m.States, gone, gone+1)
		for q := range m.States {
			arcs := slices.DeleteFunc(m.States[q].Arcs, func(a api.Arc) bool { return a.To == gone })
			for i := range arcs {
				arcs[i].To = without(arcs[i].To, gone)
			}
			m.States[q].Arcs = arcs
		}
	}
}

func without(q, gone int) int {
	switch {
	case q == gone:
		return -1
	case q > gone:
		return q - 1
	}
	return q
}

// drawn: a machine of small numbers, the same one for each seed.
func drawn(seed uint64) api.Machine {
	draw := func(most int) int {
		seed = seed*6364136223846793005 + 1442695040888963407
		return int((seed >> 33) % uint64(most))
	}
	n := 1 + draw(9)
	m := api.Machine{Start: draw(n+1) - 1, States: make([]api.State, n)}
	for q := range m.States {
		m.States[q].Final = []int{inf, inf, inf, draw(9), 0}[draw(5)]
		for range draw(4) {
			a := api.Arc{In: draw(3), Out: draw(3), Weight: draw(9), To: draw(n)}
			m.States[q].Arcs = append(m.States[q].Arcs, a)
		}
	}
	return m
}

// P6.1 to P6.3; each state that is left lies on a path, so that nothing goes when it is trimmed again.
func TestManyMachines(t *testing.T) {
	for seed := range uint64(3000) {
		m := drawn(seed)
		check(t, "drawn", m, toldAhead(m), toldBack(m), toldTrim(m))
		trimmed, _ := Trim(m)
		all := slices.Repeat([]bool{true}, len(trimmed.States))
		check(t, "trimmed", trimmed, all, all, trimmed)
	}
}

type wrongMachine struct {
	what    string
	machine api.Machine
}

func wrongMachines() []wrongMachine {
	arcs := looped(2, api.MaxArcs/2)
	arcs.States[1].Arcs = append(arcs.States[1].Arcs, api.Arc{})
	both := looped(api.MaxStates+1, 2)
	both.Start = -2
	l := []wrongMachine{
		{"no states, Start 0", api.Machine{}},
		{"no states, Start 1", api.Machine{Start: 1}},
		{"a state too many", chained(api.MaxStates + 1)},
		{"an arc too many", looped(1, api.MaxArcs+1)},
		{"an arc too many in all", arcs},
		{"a state too many, no such Start", both},
	}
	add := func(what string, n int, do func(m *api.Machine)) {
		m := machine(0, state(0, 0, 1), state(1, 0, 1, 2), state(inf))
		do(&m)
		l = append(l, wrongMachine{what + " " + strconv.Itoa(n), m})
	}
	for _, n := range []int{math.MinInt, math.MaxInt, -2, inf + 1} {
		add("Start", n, func(m *api.Machine) { m.Start = n })
		add("Final", n, func(m *api.Machine) { m.States[2].Final = n })
		add("In", n, func(m *api.Machine) { m.States[1].Arcs[1].In = n })
		add("Out", n, func(m *api.Machine) { m.States[1].Arcs[1].Out = n })
		add("Weight", n, func(m *api.Machine) { m.States[1].Arcs[1].Weight = n })
		add("To", n, func(m *api.Machine) { m.States[1].Arcs[1].To = n })
	}
	add("Start", 3, func(m *api.Machine) { m.Start = 3 })
	add("Final", -1, func(m *api.Machine) { m.States[0].Final = -1 })
	add("In", api.MaxLabel+1, func(m *api.Machine) { m.States[1].Arcs[0].In = api.MaxLabel + 1 })
	add("Out", api.MaxLabel+1, func(m *api.Machine) { m.States[1].Arcs[0].Out = api.MaxLabel + 1 })
	add("Weight", inf, func(m *api.Machine) { m.States[1].Arcs[0].Weight = inf })
	add("To", 3, func(m *api.Machine) { m.States[1].Arcs[0].To = 3 })
	add("To", -1, func(m *api.Machine) { m.States[1].Arcs[2].To = -1 })
	return l
}

// P6.1 to P6.3, with P4.1: also what is wrong where no path goes.
func TestMachinesThatAreNotRightAreRefused(t *testing.T) {
	for _, c := range wrongMachines() {
		want := core.Check(c.machine)
		if want == api.OK {
			t.Errorf("%s: the machine is right", c.what)
		}
		if got, err := Ahead(c.machine); err != want || len(got) != 0 {
			t.Errorf("%s: Ahead is %v, %v, want nothing, %v", c.what, got, err, want)
		}
		if got, err := Back(c.machine); err != want || len(got) != 0 {
			t.Errorf("%s: Back is %v, %v, want nothing, %v", c.what, got, err, want)
		}
		if got, err := Trim(c.machine); err != want || got.Start != 0 || len(got.States) != 0 {
			t.Errorf("%s: Trim is %v, %v, want nothing, %v", c.what, got, err, want)
		}
	}
}

// What is handed in stays as it is, the spare room of its lists too, and does not count.
func TestMachinesStayAsTheyAre(t *testing.T) {
	wrong := api.Arc{In: -1, Out: -1, Weight: -1, To: -1}
	arcs := []api.Arc{to(1), to(2), to(2), wrong, wrong}
	states := []api.State{state(3), state(inf), {Final: inf, Arcs: arcs[:3]}, {Final: -1, Arcs: arcs[3:]}}
	states[0].Arcs = arcs[2:3]
	kept := slices.Clone(states)
	m := machine(2, states[:3]...)
	m.States = states[:3]
	check(t, "with spare room", m, which("011"), which("100"), machine(-1))
	m.Start = 0
	check(t, "with spare room", m, which("111"), which("100"), machine(0, state(3)))
	if !slices.Equal(arcs, []api.Arc{to(1), to(2), to(2), wrong, wrong}) {
		t.Errorf("the arcs became %v", arcs)
	}
	if !reflect.DeepEqual(states, kept) {
		t.Errorf("the states became %v", states)
	}
}

// fill writes over all that a machine has, the spare room too.
func fill(m api.Machine) {
	for _, s := range m.States {
		arcs := s.Arcs[:cap(s.Arcs)]
		for i := range arcs {
			arcs[i] = api.Arc{In: -7, Out: -7, Weight: -7, To: -7}
		}
	}
	states := m.States[:cap(m.States)]
	for q := range states {
		states[q] = api.State{Final: -7}
	}
}

// P6.3: an answer is new memory: what is written over it is seen nowhere else.
func TestTrimmedMachinesAreNewMemory(t *testing.T) {
	all := []api.Arc{to(0), to(1), to(2), to(3), to(0)}
	shared := machine(0, ending(0, all[:2]...), ending(0, all[2:4]...), ending(0, all...), ending(inf))
	for q, arcs := range [][]api.Arc{all[:2], all[2:4], all, all[:0]} {
		shared.States[q].Arcs = arcs
	}
	for _, m := range []api.Machine{shared, looped(3, 2), looped(20, 2), looped(20, 3), looped(20, 5), chained(20)} {
		kept := copied(m)
		first, _ := Trim(m)
		second, _ := Trim(m)
		want := copied(second)
		fill(first)
		if !equal(m, kept) {
			t.Errorf("Trim shares memory with what was handed in: %v", m)
		}
		if !equal(second, want) {
			t.Errorf("Trim shares memory with another answer: %v", second)
		}
		for q := range second.States {
			fill(api.Machine{States: second.States[q : q+1 : q+1]})
			for r := q + 1; r < len(second.States); r++ {
				if !slices.Equal(second.States[r].Arcs, want.States[r].Arcs) {
					t.Errorf("states %d and %d share memory", q, r)
				}
			}
		}
	}
}

// P6.1 and P6.2: an answer is new memory.
func TestListsAreNewMemory(t *testing.T) {
	m := looped(9, 2)
	all := slices.Repeat([]bool{true}, 9)
	var lists [][]bool
	for range 2 {
		ahead, _ := Ahead(m)
		back, _ := Back(m)
		lists = append(lists, ahead, back)
	}
	for i, l := range lists {
		clear(l[:cap(l)])
		for _, other := range lists[i+1:] {
			if !slices.Equal(other, all) {
				t.Errorf("two answers share memory: %v", other)
			}
		}
	}
	check(t, "again", m, all, all, m)
}

// Nothing is kept from call to call: a great machine leaves nothing behind for a small one, nor one that is refused.
func TestNothingIsKept(t *testing.T) {
	small := machine(0, state(inf, 1), state(inf), state(0))
	for _, m := range []api.Machine{chained(api.MaxStates), looped(9, 4), {Start: 7}, small} {
		Ahead(m)
		Back(m)
		Trim(m)
		check(t, "behind another one", small, which("110"), which("001"), machine(-1))
	}
}
