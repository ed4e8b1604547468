package best

import (
	"math"
	"slices"
	"testing"

	"tropica/api"
	"tropica/core"
)

const (
	most = api.MaxWeight
	inf  = api.Inf
	top  = api.MaxLabel
)

func machine(start int, states ...api.State) api.Machine {
	return api.Machine{Start: start, States: states}
}

func state(final int, arcs ...api.Arc) api.State {
	return api.State{Final: final, Arcs: arcs}
}

// to a state, for this weight.
func to(q, weight int) api.Arc { return api.Arc{In: 1, Out: 2, Weight: weight, To: q} }

func arc(in, out, weight, to int) api.Arc {
	return api.Arc{In: in, Out: out, Weight: weight, To: to}
}

// chain: n states, an arc of this weight to the next one each; the last one ends for final.
func chain(n, weight, final int) api.Machine {
	m := api.Machine{States: make([]api.State, n)}
	for q := range n - 1 {
		m.States[q] = state(inf, to(q+1, weight))
	}
	m.States[n-1] = state(final)
	return m
}

// loop: one state, that ends for final, and has an arc of each of these weights to itself.
func loop(final int, weights ...int) api.Machine {
	s := state(final)
	for _, w := range weights {
		s.Arcs = append(s.Arcs, to(0, w))
	}
	return machine(0, s)
}

// example of the first tests.
func example() api.Machine {
	return machine(0, state(inf, arc(1, 2, 3, 1)), state(0))
}

func checkBest(t *testing.T, what string, m api.Machine, cost int, arcs ...int) {
	t.Helper()
	if p, err := Best(m); err != api.OK || p.Weight != cost || !slices.Equal(p.Arcs, arcs) {
		t.Errorf("%s: Best of %v is %v, %v, want %d, %v", what, m, p, err, cost, arcs)
	}
}

func checkNoBest(t *testing.T, what string, m api.Machine, want api.Errno) {
	t.Helper()
	if p, err := Best(m); err != want || p.Weight != 0 || len(p.Arcs) != 0 {
		t.Errorf("%s: Best of %v is %v, %v, want nothing, %v", what, m, p, err, want)
	}
}

func checkCosts(t *testing.T, what string, m api.Machine, n int, want []int, wantErr api.Errno) {
	t.Helper()
	if got, err := Costs(m, n); err != wantErr || !slices.Equal(got, want) {
		t.Errorf("%s: Costs of %v and %d are %v, %v, want %v, %v", what, m, n, got, err, want, wantErr)
	}
}

func checkFollow(t *testing.T, what string, m api.Machine, arcs, x, y []int, cost int) {
	t.Helper()
	r, w, c, err := Follow(m, arcs)
	if err != api.OK || c != cost || !slices.Equal(r, x) || !slices.Equal(w, y) {
		t.Errorf("%s: Follow of %v along %v is %v, %v, %d, %v, want %v, %v, %d", what, m, arcs, r, w, c, err, x, y, cost)
	}
}

func checkNoFollow(t *testing.T, what string, m api.Machine, arcs []int, want api.Errno) {
	t.Helper()
	if r, w, c, err := Follow(m, arcs); err != want || c != 0 || len(r)+len(w) != 0 {
		t.Errorf("%s: Follow of %v along %v is %v, %v, %d, %v, want nothing, %v", what, m, arcs, r, w, c, err, want)
	}
}

// P20.1
func TestBest(t *testing.T) {
	for _, c := range []struct {
		what string
		m    api.Machine
		cost int
		arcs []int
	}{
		{"one arc", example(), 3, []int{0}},
		{"the chapter's example", loop(0, 0, 0), 0, nil},
		{"the chapter's example, two states", machine(0, state(0, to(1, 0)), state(0)), 0, nil},
		{"without arcs", machine(0, state(7)), 7, nil},
		{"its own Final is as cheap", machine(0, state(3, to(1, 1)), state(2)), 3, nil},
		{"its own Final is dearer by one", machine(0, state(4, to(1, 1)), state(2)), 3, []int{0}},
		{"its own Final is cheaper by one", machine(0, state(2, to(1, 1)), state(2)), 2, nil},
		{"Start is the last one", machine(2, state(0), state(0), state(inf, to(1, 5), to(0, 4))), 4, []int{1}},
		{"the cheaper one of two arcs to one state", machine(0, state(inf, to(1, 9), to(1, 2)), state(0)), 2, []int{1}},
		{"the first one of two arcs to one state", machine(0, state(inf, to(1, 9), to(1, 2), to(1, 2)), state(0)), 2, []int{1}},
		{"what comes behind counts", machine(0, state(inf, to(1, 1), to(2, 4)), state(9), state(5)), 9, []int{1}},
		{"cheaper, though longer", machine(0, state(inf, to(3, 9), to(1, 2)), state(inf, to(2, 2)), state(inf, to(3, 2)), state(0)), 6, []int{1, 0, 0}},
		{"fewest arcs, though they stand behind", machine(0, state(inf, to(1, 1), to(2, 2)), state(inf, to(2, 1)), state(0)), 2, []int{1}},
		{"fewest arcs, though they stand behind, for nothing", machine(0, state(inf, to(1, 0), to(2, 0)), state(inf, to(2, 0)), state(0)), 0, []int{1}},
		{"fewest arcs, in the middle", machine(0, state(inf, to(1, 0)), state(inf, to(2, 0), to(3, 0)), state(inf, to(3, 0)), state(0)), 0, []int{0, 1}},
		{"fewest arcs, by an earlier end", machine(0, state(inf, to(1, 3)), state(2, to(2, 1)), state(1)), 5, []int{0}},
		{"of a cycle for nothing", machine(0, state(inf, to(0, 0), to(1, 0), to(0, 0)), state(inf, to(0, 0), to(1, 0), to(2, 0)), state(1, to(2, 0))), 1, []int{1, 2}},
		{"the first arc that stands first", machine(0, state(inf, to(2, 1), to(1, 1)), state(inf, to(3, 1)), state(inf, to(3, 1)), state(0)), 2, []int{0, 0}},
		{"the first arc ahead of the second one", machine(0, state(inf, to(1, 1), to(2, 1)), state(inf, to(1, 9), to(1, 9), to(3, 1)), state(inf, to(3, 1)), state(0)), 2, []int{0, 2}},
		{"the second arc that stands first", machine(0, state(inf, to(1, 1)), state(inf, to(2, 9), to(4, 1), to(3, 1)), state(0), state(inf, to(2, 1)), state(inf, to(2, 1))), 3, []int{0, 1, 0}},
		{"a dead end stands first", machine(0, state(inf, to(1, 0), to(2, 6)), state(inf, to(1, 0)), state(0)), 6, []int{1}},
		{"labels do not count", machine(0, state(inf, arc(0, 0, 2, 1), arc(top, top, 1, 1)), state(0)), 1, []int{1}},
		{"as much as may be", machine(0, state(inf, to(1, most-3)), state(3)), most, []int{0}},
		{"too much, but there is a cheaper way", machine(0, state(most, to(1, most)), state(most)), most, nil},
	} {
		checkBest(t, c.what, c.m, c.cost, c.arcs...)
	}
	checkBest(t, "all states", chain(api.MaxStates, 5, 6), 5*59+6, make([]int, 59)...)
}

// P20.1
func TestNoBest(t *testing.T) {
	for _, c := range []struct {
		what string
		m    api.Machine
		want api.Errno
	}{
		{"no states", machine(-1), api.ErrNone},
		{"no Start", machine(-1, state(0), state(0)), api.ErrNone},
		{"no end", machine(0, state(inf, to(1, 1)), state(inf, to(0, 0))), api.ErrNone},
		{"an end that is not reached", machine(0, state(inf), state(0, to(0, 1))), api.ErrNone},
		{"too much, by one", machine(0, state(inf, to(1, most)), state(1)), api.ErrOver},
		{"too much, by two", machine(0, state(inf, to(1, most)), state(2)), api.ErrOver},
		{"too much, by very much", chain(api.MaxStates, most, most), api.ErrOver},
		{"too much, where no path goes", machine(0, state(0), state(inf, to(2, most)), state(1)), api.ErrOver},
		{"too much, without Start", machine(-1, state(inf, to(1, most)), state(1)), api.ErrOver},
		{"too much, but it can't end", chain(5, most, inf), api.ErrNone},
		{"too much, and no path", machine(0, state(inf), state(inf, to(2, most)), state(1)), api.ErrOver},
	} {
		checkNoBest(t, c.what, c.m, c.want)
	}
}

// P20.2
func TestCosts(t *testing.T) {
	two := machine(0, state(inf, to(1, 9), to(1, 2)), state(0))
	for _, c := range []struct {
		what string
		m    api.Machine
		n    int
		want []int
	}{
		{"one arc", example(), 3, []int{3}},
		{"none is asked for", example(), 0, nil},
		{"one is asked for", two, 1, []int{2}},
		{"as many as there are", two, 2, []int{2, 9}},
		{"fewer than are asked for", two, api.MaxBest, []int{2, 9}},
		{"no states", machine(-1), 5, nil},
		{"no Start", machine(-1, state(0), state(0)), 5, nil},
		{"no end", machine(0, state(inf, to(0, 0))), 5, nil},
		{"a dead end", machine(0, state(inf, to(0, 1), to(1, 0)), state(inf, to(1, 0))), 5, nil},
		{"an end that is not reached", machine(0, state(1), state(0, to(0, 1))), 5, []int{1}},
		{"without arcs", machine(0, state(7)), 5, []int{7}},
		{"the same cost twice", machine(0, state(2, to(1, 1), to(1, 1)), state(1)), 5, []int{2, 2, 2}},
		{"arcs that are the same", machine(0, state(inf, to(1, 1), to(1, 1), to(1, 1)), state(1)), 2, []int{2, 2}},
		{"ends on the way", machine(0, state(4, to(1, 1)), state(0, to(2, 1)), state(9)), 5, []int{1, 4, 11}},
		{"two by two", machine(0, state(inf, to(1, 1), to(1, 2)), state(inf, to(2, 10), to(2, 20)), state(0)), 5, []int{11, 12, 21, 22}},
		{"a way that is dearer at first", machine(0, state(inf, to(1, 1), to(2, 5)), state(9), state(0)), 5, []int{5, 10}},
		{"a cycle", loop(1, 3), 4, []int{1, 4, 7, 10}},
		{"a cycle for nothing", loop(2, 0), 4, []int{2, 2, 2, 2}},
		{"two cycles", loop(0, 2, 3), 8, []int{0, 2, 3, 4, 5, 5, 6, 6}},
		{"two cycles for nothing", loop(0, 0, 0), api.MaxBest, make([]int, api.MaxBest)},
		{"a cycle that leads nowhere", machine(0, state(5, to(1, 0)), state(inf, to(1, 0))), 4, []int{5}},
		{"over two states", machine(0, state(0, to(1, 1)), state(inf, to(0, 1))), 4, []int{0, 2, 4, 6}},
		{"as much as may be", loop(0, most/2), 3, []int{0, most / 2, most}},
		{"too much, but not asked for", loop(0, most), 2, []int{0, most}},
		{"too much, but none is asked for", loop(1, most), 1, []int{1}},
		{"too much, but it can't end", chain(5, most, inf), 4, nil},
	} {
		checkCosts(t, c.what, c.m, c.n, c.want, api.OK)
	}
}

// P20.2
func TestNoCosts(t *testing.T) {
	over := machine(0, state(inf, to(1, most)), state(1))
	for _, c := range []struct {
		what string
		m    api.Machine
		n    int
		want api.Errno
	}{
		{"one less than none", example(), -1, api.ErrRange},
		{"one more than may be", example(), api.MaxBest + 1, api.ErrRange},
		{"the lowest number", example(), math.MinInt, api.ErrRange},
		{"the highest number", example(), math.MaxInt, api.ErrRange},
		{"out of range, no Start", machine(-1), -1, api.ErrRange},
		{"out of range ahead of too much", over, -1, api.ErrRange},
		{"more than may be ahead of too much", over, api.MaxBest + 1, api.ErrRange},
		{"the one that is asked for", over, 1, api.ErrOver},
		{"none is asked for", over, 0, api.ErrOver},
		{"where no path goes", machine(0, state(0), state(inf, to(2, most)), state(1)), 1, api.ErrOver},
		{"without Start", machine(-1, state(inf, to(1, most)), state(1)), 1, api.ErrOver},
		{"the second one, by one", loop(1, most), 2, api.ErrOver},
		{"the second one, by two", loop(2, most), 2, api.ErrOver},
		{"the third one, by one, its Final counts", machine(0, state(0, to(1, most), to(1, 0)), state(1)), 3, api.ErrOver},
		{"the last one", loop(0, most/18), api.MaxBest, api.ErrOver},
		{"very much", loop(0, most), api.MaxBest, api.ErrOver},
		{"very much, back and forth", machine(0, state(0, to(1, most)), state(0, to(0, most))), api.MaxBest, api.ErrOver},
	} {
		checkCosts(t, c.what, c.m, c.n, nil, c.want)
	}
	// 18 rounds still cost no more than may be.
	checkCosts(t, "all but the last one", loop(0, most/18), 19, steps(19, most/18), api.OK)
}

// steps: n numbers from 0 on, each one more by step.
func steps(n, step int) []int {
	list := make([]int, n)
	for i := range list {
		list[i] = i * step
	}
	return list
}

// P20.3
func TestFollow(t *testing.T) {
	m := machine(1,
		state(4, arc(5, 6, 7, 1), arc(0, 8, 1, 0)),
		state(inf, arc(9, 0, 2, 0), arc(0, 0, 3, 1), arc(top, top, 0, 2)),
		state(0))
	for _, c := range []struct {
		what       string
		m          api.Machine
		arcs, x, y []int
		cost       int
	}{
		{"one arc", example(), []int{0}, []int{1}, []int{2}, 3},
		{"without arcs", machine(0, state(7)), nil, nil, nil, 7},
		{"without arcs, an empty list", machine(0, state(7)), []int{}, nil, nil, 7},
		{"what is not written", m, []int{0}, []int{9}, nil, 6},
		{"what is not read", m, []int{0, 1}, []int{9}, []int{8}, 7},
		{"nothing is read and written", m, []int{1, 1, 1, 2}, []int{top}, []int{top}, 9},
		{"round", m, []int{0, 0, 0, 1, 0, 1, 2}, []int{9, 5, 9, 5, top}, []int{6, 8, 6, top}, 2 + 7 + 2 + 1 + 7 + 3},
		{"not the cheapest one", loop(1, 0, 5), []int{1, 1, 0}, []int{1, 1, 1}, []int{2, 2, 2}, 11},
		{"as much as may be", machine(0, state(inf, to(1, most-3)), state(3)), []int{0}, []int{1}, []int{2}, most},
		{"as many arcs as may be", loop(0, 2), make([]int, api.MaxArcs), slices.Repeat([]int{1}, api.MaxArcs), slices.Repeat([]int{2}, api.MaxArcs), 2 * api.MaxArcs},
	} {
		checkFollow(t, c.what, c.m, c.arcs, c.x, c.y, c.cost)
	}
}

// P20.3
func TestNoFollow(t *testing.T) {
	m := machine(0, state(1, to(1, most), to(0, most)), state(inf, to(0, 0)))
	long := make([]int, api.MaxArcs+1)
	for _, c := range []struct {
		what string
		m    api.Machine
		arcs []int
		want api.Errno
	}{
		{"no states", machine(-1), nil, api.ErrNone},
		{"no Start", machine(-1, state(0, to(0, 1))), nil, api.ErrNone},
		{"no Start, with arcs", machine(-1, state(0, to(0, 1))), []int{0}, api.ErrNone},
		{"it can't end there", m, []int{0}, api.ErrNone},
		{"it can't end at Start", example(), nil, api.ErrNone},
		{"no arcs", machine(0, state(0)), []int{0}, api.ErrNone},
		{"one behind the last arc", m, []int{2}, api.ErrNone},
		{"one behind the last arc, later", m, []int{0, 1}, api.ErrNone},
		{"one ahead of the first arc", m, []int{-1}, api.ErrNone},
		{"the lowest number", m, []int{math.MinInt}, api.ErrNone},
		{"the highest number", m, []int{math.MaxInt}, api.ErrNone},
		{"by one", m, []int{1}, api.ErrOver},
		{"by one, elsewhere", m, []int{0, 0}, api.ErrOver},
		{"by much", loop(most, most), make([]int, api.MaxArcs), api.ErrOver},
		{"too much, and it can't end there", m, []int{1, 0}, api.ErrNone},
		{"too much, and no such arc", m, []int{1, 1, 2}, api.ErrNone},
		{"too many", loop(0, 0), long, api.ErrSize},
		{"too many ahead of no Start", machine(-1), long, api.ErrSize},
		{"too many ahead of no such arc", example(), long, api.ErrSize},
		{"too many ahead of too much", loop(0, most), long, api.ErrSize},
	} {
		checkNoFollow(t, c.what, c.m, c.arcs, c.want)
	}
}

func wrongMachines() []api.Machine {
	l := []api.Machine{{}, {Start: 1}, {Start: -2}, chain(api.MaxStates+1, 0, 0), loop(0, make([]int, api.MaxArcs+1)...)}
	for _, n := range []int{math.MinInt, math.MaxInt, -2, inf + 1} {
		l = append(l, machine(n, state(0)), machine(0, state(n)), machine(0, state(0, to(n, 0))), machine(0, state(0, to(0, n))),
			machine(0, state(0, arc(n, 0, 0, 0))), machine(0, state(0, arc(0, n, 0, 0))))
	}
	return append(l,
		machine(0, state(0, arc(top+1, 0, 0, 0))),
		machine(0, state(0, arc(0, top+1, 0, 0))),
		machine(0, state(0, to(0, inf))),
		machine(0, state(0, to(1, 0))),
		machine(0, state(0, to(-1, 0))),
		machine(3, chain(3, most, most).States...),
		machine(-2, chain(3, most, most).States...))
}

// P4.1: a machine that is not right is refused, ahead of all else.
func TestMachinesThatAreNotRight(t *testing.T) {
	for _, m := range wrongMachines() {
		want := core.Check(m)
		if want == api.OK {
			t.Errorf("%v is right", m)
		}
		checkNoBest(t, "not right", m, want)
		for _, n := range []int{1, 0, -1, api.MaxBest + 1} {
			checkCosts(t, "not right", m, n, nil, want)
		}
		for _, arcs := range [][]int{nil, {0}, {-1}, make([]int, api.MaxArcs+1)} {
			checkNoFollow(t, "not right", m, arcs, want)
		}
	}
}
