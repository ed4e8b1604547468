package topo

import (
	"math"
	"reflect"
	"slices"
	"strconv"
	"testing"

	"tropica/api"
	"tropica/core"
)

const inf = api.Inf

// state that ends for this much, with arcs that lead to these states; arcs to the same state are the same.
func state(final int, leads ...int) api.State {
	s := api.State{Final: final}
	for _, q := range leads {
		s.Arcs = append(s.Arcs, api.Arc{In: 1, Out: 2, Weight: 3, To: q})
	}
	return s
}

func machine(start int, states ...api.State) api.Machine {
	return api.Machine{Start: start, States: states}
}

// times: a list of the same number, n times.
func times(n, q int) []int { return slices.Repeat([]int{q}, n) }

// chained: n states, each of which leads to the next one by so many arcs; only the last one can end.
func chained(n, arcs int) api.Machine {
	m := api.Machine{States: make([]api.State, n)}
	for q := range m.States {
		m.States[q] = state(inf, times(arcs, q+1)...)
	}
	m.States[n-1] = state(5)
	return m
}

// behind: the states from the last one to the first one.
func behind(m api.Machine) api.Machine {
	m = copied(m)
	last := len(m.States) - 1
	m.Start = last - m.Start
	slices.Reverse(m.States)
	for _, s := range m.States {
		for i := range s.Arcs {
			s.Arcs[i].To = last - s.Arcs[i].To
		}
	}
	return m
}

func copied(m api.Machine) api.Machine {
	m.States = slices.Clone(m.States)
	for q := range m.States {
		m.States[q].Arcs = slices.Clone(m.States[q].Arcs)
	}
	return m
}

// rising: the numbers from 0 to n-1.
func rising(n int) []int {
	list := make([]int, n)
	for q := range list {
		list[q] = q
	}
	return list
}

func falling(n int) []int {
	list := rising(n)
	slices.Reverse(list)
	return list
}

func checkOrder(t *testing.T, what string, m api.Machine, want []int, e api.Errno) {
	t.Helper()
	if got, err := Order(m); err != e || !slices.Equal(got, want) {
		t.Errorf("%s: Order of %v is %v, %v, want %v, %v", what, m, got, err, want, e)
	}
}

func checkPaths(t *testing.T, what string, m api.Machine, want int, e api.Errno) {
	t.Helper()
	if got, err := Paths(m); err != e || got != want {
		t.Errorf("%s: Paths of %v is %d, %v, want %d, %v", what, m, got, err, want, e)
	}
}

func checkLongest(t *testing.T, what string, m api.Machine, want int, e api.Errno) {
	t.Helper()
	if got, err := Longest(m); err != e || got != want {
		t.Errorf("%s: Longest of %v is %d, %v, want %d, %v", what, m, got, err, want, e)
	}
}

// checkRefused: all three calls refuse it with this error, and answer nothing.
func checkRefused(t *testing.T, what string, m api.Machine, e api.Errno) {
	t.Helper()
	checkOrder(t, what, m, nil, e)
	checkPaths(t, what, m, 0, e)
	checkLongest(t, what, m, 0, e)
}

// P7.1
func TestOrder(t *testing.T) {
	for _, c := range []struct {
		what    string
		machine api.Machine
		order   []int
	}{
		{"no states", machine(-1), nil},
		{"one state", machine(0, state(inf)), []int{0}},
		{"no arcs", machine(2, state(0), state(0), state(0)), []int{0, 1, 2}},
		{"the chapter's three", machine(0, state(0, 2), state(0), state(0, 1)), []int{0, 2, 1}},
		{"no Start", machine(-1, state(0, 2), state(0), state(0, 1)), []int{0, 2, 1}},
		{"Start in between", machine(2, state(0, 2), state(0), state(0, 1)), []int{0, 2, 1}},
		{"one arc back", machine(0, state(0), state(0, 0)), []int{1, 0}},
		{"all arcs back", machine(0, state(0), state(0, 0), state(0, 1, 0)), []int{2, 1, 0}},
		{"a lower one gets ready later", machine(0, state(0), state(0), state(0, 0), state(0)), []int{1, 2, 0, 3}},
		{"one that gets ready goes ahead of those that wait", machine(0, state(0, 1), state(0), state(0), state(0)), []int{0, 1, 2, 3}},
		{"many get ready at once", machine(4, state(0), state(0), state(0), state(0), state(0, 3, 0, 2, 1)), []int{4, 0, 1, 2, 3}},
		{"the same arcs again", machine(0, state(0, 2, 2, 2), state(0), state(0, 1, 1)), []int{0, 2, 1}},
		{"behind both", machine(0, state(0), state(0, 0), state(0, 0)), []int{1, 2, 0}},
		{"not ready by the first arc alone", machine(0, state(0, 1), state(0), state(0, 3), state(0, 1)), []int{0, 2, 3, 1}},
		{"more than nine waiting", machine(0, state(0, 11), state(0), state(0), state(0), state(0), state(0), state(0), state(0), state(0), state(0), state(0, 2), state(0, 1)), []int{0, 3, 4, 5, 6, 7, 8, 9, 10, 2, 11, 1}},
	} {
		checkOrder(t, c.what, c.machine, c.order, api.OK)
	}
}

// P7.1: labels, weights and ends do not matter.
func TestOrderGoesByArcsAlone(t *testing.T) {
	m := machine(1,
		api.State{Final: api.MaxWeight, Arcs: []api.Arc{{To: 2}, {In: 9, Weight: api.MaxWeight, To: 2}}},
		api.State{Final: inf, Arcs: []api.Arc{{In: api.MaxLabel, Out: 1, To: 0}}},
		api.State{},
	)
	checkOrder(t, "labels and weights", m, []int{1, 0, 2}, api.OK)
}

// P7.1: a cycle is refused wherever it is, ahead of there being no path.
func TestCyclesAreRefused(t *testing.T) {
	for _, c := range []struct {
		what    string
		machine api.Machine
	}{
		{"to itself", machine(0, state(0, 0))},
		{"to itself, no end", machine(0, state(inf, 0))},
		{"to itself, no Start", machine(-1, state(0, 0))},
		{"the last one to itself", machine(0, state(0, 1), state(0, 2), state(0, 2))},
		{"the first one to itself", machine(1, state(0, 0), state(0))},
		{"two", machine(0, state(0, 1), state(0, 0))},
		{"three", machine(0, state(0, 2), state(0, 0), state(0, 1))},
		{"not reached", machine(0, state(0), state(0, 2), state(0, 1))},
		{"leads to Start", machine(0, state(0), state(0, 1, 0))},
		{"can't end from there", machine(0, state(0, 1), state(inf, 2), state(inf, 1))},
		{"where no path goes", machine(0, state(inf), state(inf, 1))},
		{"behind others", machine(0, state(0, 1, 3), state(0, 2), state(0, 3, 1), state(0))},
		{"of two arcs, one on", machine(0, state(0, 1), state(0, 1, 2), state(0))},
	} {
		checkRefused(t, c.what, c.machine, api.ErrCycle)
	}
	great := chained(api.MaxStates, 6)
	great.States[api.MaxStates-1] = state(0, 0)
	checkRefused(t, "all states", great, api.ErrCycle)
	great.States[api.MaxStates-1] = state(0, api.MaxStates-1)
	checkRefused(t, "ways above MaxWeight, and the last one to itself", great, api.ErrCycle)
}

// P7.2 and P7.3: -1: there is no path.
func TestPathsAndLongest(t *testing.T) {
	for _, c := range []struct {
		what           string
		machine        api.Machine
		paths, longest int
	}{
		{"no states", machine(-1), 0, -1},
		{"no end", machine(0, state(inf)), 0, -1},
		{"without arcs", machine(0, state(0)), 1, 0},
		{"without arcs, for most", machine(0, state(api.MaxWeight)), 1, 0},
		{"no Start", machine(-1, state(0, 1), state(0)), 0, -1},
		{"the chapter's two", machine(0, state(inf, 1), state(0)), 1, 1},
		{"both end", machine(0, state(0, 1), state(0)), 2, 1},
		{"only the first one ends", machine(0, state(0, 1), state(inf)), 1, 0},
		{"no one ends", machine(0, state(inf, 1, 1), state(inf)), 0, -1},
		{"the same arc three times", machine(0, state(inf, 1, 1, 1), state(0)), 3, 1},
		{"Start is the end of an arc", machine(1, state(0, 1), state(0)), 1, 0},
		{"Start is behind", machine(1, state(0), state(inf, 0)), 1, 1},
		{"Start in between", machine(2, state(0, 2, 2), state(4), state(inf, 1)), 1, 1},
		{"an end that is not reached", machine(0, state(0), state(0), state(0, 1)), 1, 0},
		{"a dead end that is longer", machine(0, state(inf, 1, 2), state(0), state(inf, 3), state(inf)), 1, 1},
		{"a way from elsewhere that is longer", machine(3, state(inf, 1), state(inf, 2), state(0), state(inf, 2)), 1, 1},
		{"short and long", machine(0, state(inf, 3, 1), state(inf, 2), state(inf, 3), state(0)), 2, 3},
		{"long, then short", machine(0, state(inf, 1, 3), state(inf, 2), state(inf, 3), state(0)), 2, 3},
		{"two by three, and ends between", machine(0, state(inf, 1, 1), state(0, 2, 2, 2), state(0)), 8, 2},
		{"the longest one ends before the last state", machine(0, state(inf, 3, 2), state(0), state(0, 1), state(0)), 3, 2},
	} {
		checkPaths(t, c.what, c.machine, c.paths, api.OK)
		if c.longest == -1 {
			checkLongest(t, c.what, c.machine, 0, api.ErrNone)
		} else {
			checkLongest(t, c.what, c.machine, c.longest, api.OK)
		}
	}
}

// P7.2: as many paths as may be, and one more: by an arc, by another end, and by the Start's end.
func TestPathsUpToMaxWeight(t *testing.T) {
	most := chained(10, 10)
	checkPaths(t, "as many as may be", most, api.MaxWeight, api.OK)
	checkPaths(t, "as many as may be, from behind", behind(most), api.MaxWeight, api.OK)
	checkLongest(t, "as many as may be", most, 9, api.OK)

	arc := copied(most)
	arc.States[0].Arcs = append(arc.States[0].Arcs, api.Arc{To: 9})
	checkPaths(t, "one more by an arc", arc, 0, api.ErrOver)
	checkPaths(t, "one more by an arc, from behind", behind(arc), 0, api.ErrOver)
	checkLongest(t, "one more by an arc", arc, 9, api.OK)

	end := copied(most)
	end.States[0].Arcs = append(end.States[0].Arcs, api.Arc{To: 10})
	end.States = append(end.States, state(0))
	checkPaths(t, "one more by another end", end, 0, api.ErrOver)
	end.States[10].Final = inf
	checkPaths(t, "none more by another state", end, api.MaxWeight, api.OK)

	start := copied(most)
	start.States[0].Final = 0
	checkPaths(t, "one more by the Start's end", start, 0, api.ErrOver)
	checkPaths(t, "far more", chained(11, 10), 0, api.ErrOver)
}

// P7.2: so many ways that a number of 64 bits wraps round, to 0 too; where no path goes on from there they do not count.
func TestManyMoreWays(t *testing.T) {
	for _, arcs := range []int{2, 3, 4, 5, 6} {
		m := chained(api.MaxStates, arcs)
		what := strconv.Itoa(arcs) + " arcs each"
		checkPaths(t, what, m, 0, api.ErrOver)
		checkPaths(t, what+", from behind", behind(m), 0, api.ErrOver)
		checkLongest(t, what, m, api.MaxStates-1, api.OK)
		m.States[api.MaxStates-1].Final = inf
		checkPaths(t, what+", no end", m, 0, api.OK)
		checkLongest(t, what+", no end", m, 0, api.ErrNone)
		m.States[1].Final = 0
		checkPaths(t, what+", an early end", m, arcs, api.OK)
		checkLongest(t, what+", an early end", m, 1, api.OK)
	}
	two := chained(api.MaxStates, 6)
	for q := range two.States {
		two.States[q].Final = 0
	}
	checkPaths(t, "all end", two, 0, api.ErrOver)
}

// P7.1 to P7.3: as many states, and as many arcs, as may be.
func TestGreatMachines(t *testing.T) {
	m := chained(api.MaxStates, 1)
	checkOrder(t, "chained", m, rising(api.MaxStates), api.OK)
	checkPaths(t, "chained", m, 1, api.OK)
	checkLongest(t, "chained", m, api.MaxStates-1, api.OK)
	m = behind(m)
	checkOrder(t, "chained, from behind", m, falling(api.MaxStates), api.OK)
	checkPaths(t, "chained, from behind", m, 1, api.OK)
	checkLongest(t, "chained, from behind", m, api.MaxStates-1, api.OK)

	wide := machine(0, state(0, times(api.MaxArcs, 1)...), state(0))
	checkOrder(t, "wide", wide, []int{0, 1}, api.OK)
	checkPaths(t, "wide", wide, api.MaxArcs+1, api.OK)
	checkLongest(t, "wide", wide, 1, api.OK)

	loose := machine(-1, slices.Repeat([]api.State{state(0)}, api.MaxStates)...)
	checkOrder(t, "loose", loose, rising(api.MaxStates), api.OK)
	checkPaths(t, "loose", loose, 0, api.OK)
	checkLongest(t, "loose", loose, 0, api.ErrNone)
}

// orderByWords: P7.1, word by word: which states no arc leads to from one that is not told yet is asked anew each time.
func orderByWords(m api.Machine) ([]int, api.Errno) {
	var order []int
	isFree := func(r int) bool {
		for q, s := range m.States {
			if slices.Contains(order, q) {
				continue
			}
			if slices.ContainsFunc(s.Arcs, func(a api.Arc) bool { return a.To == r }) {
				return false
			}
		}
		return !slices.Contains(order, r)
	}
	for range m.States {
		r := slices.IndexFunc(rising(len(m.States)), isFree)
		if r < 0 {
			return nil, api.ErrCycle
		}
		order = append(order, r)
	}
	return order, api.OK
}

// walk along all paths, one by one, from this state on, behind so many arcs.
func walk(m api.Machine, q, arcs int, path func(arcs int)) {
	if m.States[q].Final != inf {
		path(arcs)
	}
	for _, a := range m.States[q].Arcs {
		walk(m, a.To, arcs+1, path)
	}
}

// drawn: a machine of small numbers, the same one for each seed; seldom with a cycle.
func drawn(seed uint64) api.Machine {
	draw := func(most int) int {
		seed = seed*6364136223846793005 + 1442695040888963407
		return int((seed >> 33) % uint64(most))
	}
	n := 1 + draw(9)
	order := rising(n)
	for i := range order {
		j := i + draw(n-i)
		order[i], order[j] = order[j], order[i]
	}
	m := api.Machine{Start: draw(n+1) - 1, States: make([]api.State, n)}
	for i, q := range order {
		m.States[q].Final = []int{inf, inf, draw(9), 0}[draw(4)]
		for range draw(4) {
			j := draw(n)
			if j > i || draw(40) == 0 {
				a := api.Arc{In: draw(3), Out: draw(3), Weight: draw(9), To: order[j]}
				m.States[q].Arcs = append(m.States[q].Arcs, a)
			}
		}
	}
	return m
}

// P7.1 to P7.3
func TestManyMachines(t *testing.T) {
	cycles, without := 0, 0
	for seed := range uint64(5000) {
		m := drawn(seed)
		order, err := orderByWords(m)
		checkOrder(t, "drawn", m, order, err)
		if err != api.OK {
			cycles++
			checkRefused(t, "drawn", m, err)
			continue
		}
		paths, longest, e := 0, 0, api.ErrNone
		if m.Start >= 0 {
			walk(m, m.Start, 0, func(arcs int) {
				paths++
				longest, e = max(longest, arcs), api.OK
			})
		}
		if paths == 0 {
			without++
		}
		checkPaths(t, "drawn", m, paths, api.OK)
		checkLongest(t, "drawn", m, longest, e)
	}
	if cycles < 200 || cycles > 4000 || without < 200 {
		t.Errorf("%d machines have cycles, %d no path", cycles, without)
	}
}

type wrongMachine struct {
	what    string
	machine api.Machine
}

func wrongMachines() []wrongMachine {
	arcs := machine(0, state(0, times(api.MaxArcs, 1)...), state(0, 2), state(0))
	both := chained(api.MaxStates+1, 2)
	both.Start = -2
	ring := chained(api.MaxStates+1, 1)
	ring.States[api.MaxStates] = state(0, 0)
	l := []wrongMachine{
		{"no states, Start 0", api.Machine{}},
		{"no states, Start 1", api.Machine{Start: 1}},
		{"a state too many", chained(api.MaxStates+1, 1)},
		{"a state too many, with a cycle", ring},
		{"an arc too many", machine(0, state(0, times(api.MaxArcs+1, 1)...), state(0))},
		{"an arc too many in all", arcs},
		{"an arc too many, to itself", machine(0, state(0, times(api.MaxArcs+1, 0)...))},
		{"a state too many, no such Start", both},
	}
	add := func(what string, n int, do func(m *api.Machine)) {
		for _, last := range []api.State{state(inf), state(0, 2)} {
			m := machine(0, state(0, 1, 2), state(1, 2, 2), last)
			do(&m)
			l = append(l, wrongMachine{what + " " + strconv.Itoa(n), m})
		}
	}
	for _, n := range []int{math.MinInt, math.MaxInt, -2, inf + 1} {
		add("Start", n, func(m *api.Machine) { m.Start = n })
		add("Final", n, func(m *api.Machine) { m.States[2].Final = n })
		add("In", n, func(m *api.Machine) { m.States[1].Arcs[1].In = n })
		add("Out", n, func(m *api.Machine) { m.States[1].Arcs[1].Out = n })
		add("Weight", n, func(m *api.Machine) { m.States[1].Arcs[1].Weight = n })
		add("To", n, func(m *api.Machine) { m.States[1].Arcs[1].To = n })
	}
	add("Start", 3, func(m *api.Machine) { m.Start = 3 })
	add("Final", -1, func(m *api.Machine) { m.States[0].Final = -1 })
	add("In", api.MaxLabel+1, func(m *api.Machine) { m.States[1].Arcs[0].In = api.MaxLabel + 1 })
	add("Out", api.MaxLabel+1, func(m *api.Machine) { m.States[1].Arcs[0].Out = api.MaxLabel + 1 })
	add("Weight", inf, func(m *api.Machine) { m.States[1].Arcs[0].Weight = inf })
	add("To", 3, func(m *api.Machine) { m.States[1].Arcs[0].To = 3 })
	add("To", -1, func(m *api.Machine) { m.States[1].Arcs[1].To = -1 })
	return l
}

// P7.1 to P7.3, with P4.1: ahead of cycles, of too many paths, and of none.
func TestMachinesThatAreNotRightAreRefused(t *testing.T) {
	for _, c := range wrongMachines() {
		want := core.Check(c.machine)
		if want == api.OK {
			t.Errorf("%s: the machine is right", c.what)
		}
		checkRefused(t, c.what, c.machine, want)
	}
}

// What is handed in stays as it is, the spare room of its lists too, and does not count.
func TestMachinesStayAsTheyAre(t *testing.T) {
	wrong := api.Arc{In: -1, Out: -1, Weight: -1, To: -1}
	arcs := []api.Arc{{To: 2}, {To: 1}, {To: 1}, wrong, wrong}
	states := []api.State{{Final: inf, Arcs: arcs[:1]}, {Final: 4}, {Final: inf, Arcs: arcs[1:3]}, {Final: -1, Arcs: arcs[3:]}}
	keptArcs, keptStates := slices.Clone(arcs), slices.Clone(states)
	m := api.Machine{States: states[:3]}
	checkOrder(t, "with spare room", m, []int{0, 2, 1}, api.OK)
	checkPaths(t, "with spare room", m, 2, api.OK)
	checkLongest(t, "with spare room", m, 2, api.OK)
	if !slices.Equal(arcs, keptArcs) {
		t.Errorf("the arcs became %v", arcs)
	}
	if !reflect.DeepEqual(states, keptStates) {
		t.Errorf("the states became %v", states)
	}
}

// P7.1: an answer is new memory, its spare room too.
func TestOrdersAreNewMemory(t *testing.T) {
	m := chained(9, 2)
	first, _ := Order(m)
	second, _ := Order(m)
	first = first[:cap(first)]
	for i := range first {
		first[i] = -7
	}
	if !slices.Equal(second, rising(9)) {
		t.Errorf("two answers share memory: %v", second)
	}
	checkOrder(t, "asked again", m, rising(9), api.OK)
}

// Nothing is kept from call to call: a machine that was changed is another one.
func TestNothingIsKept(t *testing.T) {
	m := chained(3, 2)
	checkOrder(t, "at first", m, []int{0, 1, 2}, api.OK)
	checkPaths(t, "at first", m, 4, api.OK)
	checkLongest(t, "at first", m, 2, api.OK)
	m.States[1].Arcs[1].To = 1
	checkRefused(t, "with a cycle", m, api.ErrCycle)
	m.States[1].Arcs = m.States[1].Arcs[:0]
	m.States[1].Final = 0
	checkOrder(t, "without arcs", m, []int{0, 1, 2}, api.OK)
	checkPaths(t, "without arcs", m, 2, api.OK)
	checkLongest(t, "without arcs", m, 1, api.OK)
}
