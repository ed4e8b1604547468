package distance

import (
	"math"
	"slices"
	"testing"

	"tropica/api"
	"tropica/core"
)

const (
	most = api.MaxWeight
	inf  = api.Inf
	top  = api.MaxLabel
)

func machine(start int, states ...api.State) api.Machine {
	return api.Machine{Start: start, States: states}
}

// state that ends for this much, with these arcs: Weight and To of each.
func state(final int, arcs ...[2]int) api.State {
	s := api.State{Final: final}
	for i, a := range arcs {
		s.Arcs = append(s.Arcs, api.Arc{In: i % 3, Out: i % 2, Weight: a[0], To: a[1]})
	}
	return s
}

// sized: so many states, none of which can end, with so many arcs in all.
func sized(states, arcs int) api.Machine {
	m := api.Machine{States: make([]api.State, states)}
	for q := range m.States {
		m.States[q].Final = inf
	}
	for i := range arcs {
		s := &m.States[i*7%states]
		s.Arcs = append(s.Arcs, api.Arc{In: 1 + i, Out: i, Weight: i, To: i % states})
	}
	return m
}

// chain: n states, an arc of this weight to the next one each; the last one ends for final.
func chain(n, weight, final int) api.Machine {
	m := sized(n, 0)
	for q := range n - 1 {
		m.States[q].Arcs = []api.Arc{{Weight: weight, To: q + 1}}
	}
	m.States[n-1].Final = final
	return m
}

// example of the chapter.
func example() api.Machine {
	return machine(0, state(inf, [2]int{5, 1}, [2]int{9, 2}), state(inf, [2]int{1, 2}), state(3))
}

func checkList(t *testing.T, what string, got []int, err api.Errno, want ...int) {
	t.Helper()
	if err != api.OK || !slices.Equal(got, want) {
		t.Errorf("%s: %v, %v, want %v", what, got, err, want)
	}
}

func checkNoList(t *testing.T, what string, got []int, err, want api.Errno) {
	t.Helper()
	if err != want || len(got) != 0 {
		t.Errorf("%s: %v, %v, want nothing, %v", what, got, err, want)
	}
}

func checkCost(t *testing.T, what string, got int, err api.Errno, want int, wantErr api.Errno) {
	t.Helper()
	if err != wantErr || got != want {
		t.Errorf("%s: %d, %v, want %d, %v", what, got, err, want, wantErr)
	}
}

// P13.1, P13.2, P13.3: the chapter's example.
func TestExample(t *testing.T) {
	from, err := From(example())
	checkList(t, "From", from, err, 0, 5, 6)
	ends, err := Ends(example())
	checkList(t, "Ends", ends, err, 9, 4, 3)
	least, err := Least(example())
	checkCost(t, "Least", least, err, 9, api.OK)
}

func wrongMachines() []api.Machine {
	l := []api.Machine{{}, {Start: 1}, {Start: -2}, sized(api.MaxStates+1, 0), sized(5, api.MaxArcs+1)}
	for _, n := range []int{math.MinInt, math.MaxInt, -2, inf + 1} {
		l = append(l,
			machine(n, state(0)),
			machine(0, state(n)),
			machine(0, api.State{Arcs: []api.Arc{{In: n}}}),
			machine(0, api.State{Arcs: []api.Arc{{Out: n}}}),
			machine(0, state(0, [2]int{n, 0})),
			machine(0, state(0, [2]int{0, n})))
	}
	return append(l,
		machine(0, api.State{Arcs: []api.Arc{{In: top + 1}}}),
		machine(0, api.State{Arcs: []api.Arc{{Out: top + 1}}}),
		machine(0, state(0, [2]int{inf, 0})),
		machine(0, state(0, [2]int{0, 1})),
		machine(0, state(0, [2]int{0, -1})),
		machine(3, chain(3, most, most).States...),
		machine(-2, chain(3, most, most).States...))
}

// P4.1: a machine that is not right is refused, ahead of what is too much.
func TestMachinesThatAreNotRight(t *testing.T) {
	for _, m := range wrongMachines() {
		want := core.Check(m)
		if want == api.OK {
			t.Errorf("%v is right", m)
		}
		from, err := From(m)
		checkNoList(t, "From", from, err, want)
		ends, err := Ends(m)
		checkNoList(t, "Ends", ends, err, want)
		least, err := Least(m)
		checkCost(t, "Least", least, err, 0, want)
	}
}

// P13.1
func TestFrom(t *testing.T) {
	for _, c := range []struct {
		what string
		m    api.Machine
		want []int
	}{
		{"no states", api.Machine{Start: -1}, nil},
		{"one state", machine(0, state(inf)), []int{0}},
		{"one state, no Start", machine(-1, state(0)), []int{inf}},
		{"no Start", machine(-1, state(0, [2]int{1, 1}), state(0, [2]int{1, 0})), []int{inf, inf}},
		{"a Final does not count", machine(0, state(7, [2]int{1, 1}), state(most)), []int{0, 1}},
		{"Start is the last one", machine(2, state(0), state(0), state(0, [2]int{4, 0})), []int{4, inf, 0}},
		{"arcs go one way", machine(1, state(0, [2]int{1, 1}), state(0, [2]int{2, 2}), state(0)), []int{inf, 0, 2}},
		{"a way round is cheaper", machine(0, state(0, [2]int{9, 3}, [2]int{2, 1}), state(0, [2]int{2, 2}), state(0, [2]int{2, 3}), state(0)), []int{0, 2, 4, 6}},
		{"two arcs, the dearer one first", machine(0, state(0, [2]int{9, 1}, [2]int{2, 1}), state(0)), []int{0, 2}},
		{"two arcs, the cheaper one first", machine(0, state(0, [2]int{2, 1}, [2]int{9, 1}), state(0)), []int{0, 2}},
		{"back to Start", machine(0, state(0, [2]int{5, 0}, [2]int{1, 1}), state(0, [2]int{1, 0})), []int{0, 1}},
		{"a cycle for nothing", machine(0, state(0, [2]int{0, 0}, [2]int{0, 1}), state(0, [2]int{0, 0}, [2]int{0, 2}), state(0, [2]int{0, 0})), []int{0, 0, 0}},
		{"what can't be reached leads there", machine(0, state(0, [2]int{8, 1}), state(0), state(0, [2]int{1, 1})), []int{0, 8, inf}},
		{"it can end nowhere", machine(0, state(inf, [2]int{1, 1}), state(inf)), []int{0, 1}},
		{"as much as may be", machine(0, state(0, [2]int{most, 1}), state(0, [2]int{0, 2}), state(0)), []int{0, most, most}},
		{"as much as may be, in two", machine(0, state(0, [2]int{most - 1, 1}), state(0, [2]int{1, 2}), state(0)), []int{0, most - 1, most}},
		{"too much, but there is a cheaper way", machine(0, state(0, [2]int{most, 1}, [2]int{most, 2}), state(0, [2]int{most, 2}), state(0, [2]int{most, 0})), []int{0, most, most}},
		{"too much, but not from Start", machine(0, state(0), state(0, [2]int{most, 2}), state(0, [2]int{most, 3}), state(0)), []int{0, inf, inf, inf}},
		{"too much, without Start", machine(-1, chain(3, most, 0).States...), []int{inf, inf, inf}},
	} {
		got, err := From(c.m)
		checkList(t, c.what, got, err, c.want...)
	}
}

// P13.1: ErrOver
func TestFromTooMuch(t *testing.T) {
	for _, c := range []struct {
		what string
		m    api.Machine
	}{
		{"by one", machine(0, state(0, [2]int{most, 1}), state(0, [2]int{1, 2}), state(0))},
		{"by one, the cheaper of two ways", machine(0, state(0, [2]int{most, 1}), state(0, [2]int{2, 2}, [2]int{1, 2}), state(0))},
		{"by two", machine(0, state(0, [2]int{most - 1, 1}), state(0, [2]int{3, 2}), state(0))},
		{"by much", chain(3, most, 0)},
		{"by very much", chain(api.MaxStates, most, inf)},
		{"and can't end", chain(3, most, inf)},
		{"ahead of Start", machine(2, state(0), state(0, [2]int{most, 0}), state(0, [2]int{1, 1}))},
		{"a state between", machine(0, state(0, [2]int{most, 1}, [2]int{0, 3}), state(0, [2]int{1, 2}), state(0), state(0))},
	} {
		got, err := From(c.m)
		checkNoList(t, c.what, got, err, api.ErrOver)
	}
}

// P13.2
func TestEnds(t *testing.T) {
	for _, c := range []struct {
		what string
		m    api.Machine
		want []int
	}{
		{"no states", api.Machine{Start: -1}, nil},
		{"one state", machine(0, state(7)), []int{7}},
		{"one state that can't end", machine(0, state(inf)), []int{inf}},
		{"one state that can't end, with an arc", machine(0, state(inf, [2]int{1, 0})), []int{inf}},
		{"no Start", machine(-1, state(inf, [2]int{1, 1}), state(2)), []int{3, 2}},
		{"what can't be reached counts", machine(1, state(inf, [2]int{1, 1}), state(2), state(9, [2]int{5, 0})), []int{3, 2, 8}},
		{"its own Final is cheaper", machine(0, state(3, [2]int{1, 1}), state(3)), []int{3, 3}},
		{"its own Final is dearer", machine(0, state(5, [2]int{1, 1}), state(3)), []int{4, 3}},
		{"its own Final is 0", machine(0, state(0, [2]int{0, 1}), state(3)), []int{0, 3}},
		{"the dearer state ends cheaper", machine(0, state(inf, [2]int{1, 1}, [2]int{4, 2}), state(9), state(2)), []int{6, 9, 2}},
		{"a way round is cheaper", machine(0, state(inf, [2]int{9, 3}, [2]int{2, 1}), state(inf, [2]int{2, 2}), state(inf, [2]int{2, 3}), state(1)), []int{7, 5, 3, 1}},
		{"two arcs, the dearer one first", machine(0, state(inf, [2]int{9, 1}, [2]int{2, 1}), state(0)), []int{2, 0}},
		{"arcs go one way", machine(0, state(0, [2]int{1, 1}), state(inf)), []int{0, inf}},
		{"a cycle for nothing", machine(0, state(inf, [2]int{0, 1}), state(inf, [2]int{0, 0}, [2]int{0, 2}), state(4, [2]int{0, 2})), []int{4, 4, 4}},
		{"a cycle that does not end", machine(0, state(inf, [2]int{0, 1}), state(inf, [2]int{0, 0}), state(4)), []int{inf, inf, 4}},
		{"as much as may be", machine(0, state(inf, [2]int{most, 1}), state(0)), []int{most, 0}},
		{"a Final as high as may be", machine(0, state(inf, [2]int{0, 1}), state(most)), []int{most, most}},
		{"as much as may be, in two", machine(0, state(inf, [2]int{most - 1, 1}), state(1)), []int{most, 1}},
		{"too much, but there is a cheaper way", machine(0, state(most, [2]int{most, 1}), state(most)), []int{most, most}},
		{"too much, but it can't end", chain(5, most, inf), []int{inf, inf, inf, inf, inf}},
	} {
		got, err := Ends(c.m)
		checkList(t, c.what, got, err, c.want...)
	}
}

// P13.2: ErrOver
func TestEndsTooMuch(t *testing.T) {
	for _, c := range []struct {
		what string
		m    api.Machine
	}{
		{"by one, the Final counts", machine(0, state(inf, [2]int{most, 1}), state(1))},
		{"by one, the arc counts", machine(0, state(inf, [2]int{1, 1}), state(most))},
		{"by one, the cheaper of two ways", machine(0, state(inf, [2]int{2, 1}, [2]int{1, 1}), state(most))},
		{"by one, two arcs", machine(0, state(inf, [2]int{most, 1}), state(inf, [2]int{1, 2}), state(0))},
		{"by two", machine(0, state(inf, [2]int{2, 1}), state(most))},
		{"by much", chain(3, most, most)},
		{"by very much", chain(api.MaxStates, most, most)},
		{"from what can't be reached", machine(0, state(0), state(inf, [2]int{most, 2}), state(1))},
		{"no Start", machine(-1, state(inf, [2]int{most, 1}), state(1))},
		{"a state between", machine(0, state(0, [2]int{1, 1}), state(inf, [2]int{1, 2}), state(most))},
	} {
		got, err := Ends(c.m)
		checkNoList(t, c.what, got, err, api.ErrOver)
		least, err := Least(c.m)
		checkCost(t, "Least: "+c.what, least, err, 0, api.ErrOver)
	}
}

// P13.3
func TestLeast(t *testing.T) {
	for _, c := range []struct {
		what string
		m    api.Machine
		want int
	}{
		{"no states", api.Machine{Start: -1}, inf},
		{"no Start", machine(-1, state(0), state(0)), inf},
		{"Start ends", machine(0, state(4)), 4},
		{"Start can't end", machine(0, state(inf), state(0, [2]int{1, 0})), inf},
		{"Start is the last one", machine(1, state(4), state(inf, [2]int{3, 0})), 7},
		{"Start is not the cheapest one", machine(1, state(0), state(6), state(3)), 6},
		{"nothing", machine(0, state(inf, [2]int{0, 1}), state(0)), 0},
		{"as much as may be", machine(0, state(inf, [2]int{most - 3, 1}), state(3)), most},
	} {
		got, err := Least(c.m)
		checkCost(t, c.what, got, err, c.want, api.OK)
	}
}
