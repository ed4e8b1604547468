package rational

import (
	"math"
	"reflect"
	"slices"
	"strconv"
	"testing"

	"tropica/api"
	"tropica/core"
)

const (
	most = api.MaxWeight
	inf  = api.Inf
)

func machine(start int, states ...api.State) api.Machine {
	return api.Machine{Start: start, States: states}
}

// state that ends for this much, with these arcs: In, Out, Weight and To of each.
func state(final int, arcs ...[4]int) api.State {
	s := api.State{Final: final}
	for _, a := range arcs {
		s.Arcs = append(s.Arcs, api.Arc{In: a[0], Out: a[1], Weight: a[2], To: a[3]})
	}
	return s
}

// simple: reads 1, writes 2, for 3.
func simple() api.Machine { return machine(0, state(inf, [4]int{1, 2, 3, 1}), state(0)) }

// backward: the last of three states is Start; all others can end, for other weights.
func backward() api.Machine {
	return machine(2,
		state(most, [4]int{5, 0, most, 1}, [4]int{5, 0, most, 1}),
		state(4),
		state(inf, [4]int{9, 8, 7, 2}, [4]int{0, 0, 6, 0}, [4]int{api.MaxLabel, api.MaxLabel, 0, 1}),
	)
}

// sized: so many states, none of which can end, with so many arcs in all.
func sized(states, arcs int) api.Machine {
	m := api.Machine{States: make([]api.State, states)}
	for q := range m.States {
		m.States[q].Final = inf
	}
	for i := range arcs {
		s := &m.States[i*7%states]
		s.Arcs = append(s.Arcs, api.Arc{In: 1 + i, Out: i, Weight: i, To: i % states})
	}
	return m
}

// ending: the machine, whose first n states can end.
func ending(m api.Machine, n int) api.Machine {
	m = copied(m)
	for q := range n {
		m.States[q].Final = q
	}
	return m
}

func startingAt(m api.Machine, start int) api.Machine {
	m.Start = start
	return m
}

func copied(m api.Machine) api.Machine {
	m.States = slices.Clone(m.States)
	for q := range m.States {
		m.States[q].Arcs = slices.Clone(m.States[q].Arcs)
	}
	return m
}

// alike: the same but for lists without elements, which may be nil or not.
func alike(a, b api.Machine) bool {
	return a.Start == b.Start && slices.EqualFunc(a.States, b.States, func(s, r api.State) bool {
		return s.Final == r.Final && slices.Equal(s.Arcs, r.Arcs)
	})
}

// call: one of the three, of which Star takes only the first machine.
type call struct {
	name string
	does func(a, b api.Machine) (api.Machine, api.Errno)
}

func calls() []call {
	return []call{
		{"Union", Union},
		{"Concat", Concat},
		{"Star", func(a, _ api.Machine) (api.Machine, api.Errno) { return Star(a) }},
	}
}

func checkBuilt(t *testing.T, what string, got api.Machine, err api.Errno, want api.Machine) {
	t.Helper()
	if err != api.OK || !alike(got, want) {
		t.Errorf("%s: %v, %v, want %v", what, got, err, want)
	}
	if e := core.Check(got); e != api.OK {
		t.Errorf("%s: %v is not right: %v", what, got, e)
	}
}

func checkRefused(t *testing.T, what string, got api.Machine, err, want api.Errno) {
	t.Helper()
	if err != want || got.Start != 0 || len(got.States) != 0 {
		t.Errorf("%s: %v, %v, want nothing, %v", what, got, err, want)
	}
}

// P10.2
func TestUnion(t *testing.T) {
	nothing := machine(-1)
	for _, c := range []struct {
		what       string
		a, b, want api.Machine
	}{
		{"nothing or nothing", nothing, nothing, machine(0, state(inf))},
		{"simple or nothing", simple(), nothing, machine(0, state(inf, [4]int{0, 0, 0, 1}), state(inf, [4]int{1, 2, 3, 2}), state(0))},
		{"nothing or simple", nothing, simple(), machine(0, state(inf, [4]int{0, 0, 0, 1}), state(inf, [4]int{1, 2, 3, 2}), state(0))},
		{"simple or simple", simple(), simple(), machine(0,
			state(inf, [4]int{0, 0, 0, 1}, [4]int{0, 0, 0, 3}),
			state(inf, [4]int{1, 2, 3, 2}), state(0),
			state(inf, [4]int{1, 2, 3, 4}), state(0))},
		{"no Start at first", startingAt(simple(), -1), machine(0, state(8)), machine(0,
			state(inf, [4]int{0, 0, 0, 3}), state(inf, [4]int{1, 2, 3, 2}), state(0), state(8))},
		{"no Start behind", machine(0, state(8)), startingAt(simple(), -1), machine(0,
			state(inf, [4]int{0, 0, 0, 1}), state(8), state(inf, [4]int{1, 2, 3, 3}), state(0))},
		{"no Start at all", machine(-1, state(8)), machine(-1, state(9, [4]int{0, 0, 0, 0})), machine(0,
			state(inf), state(8), state(9, [4]int{0, 0, 0, 2}))},
		{"Start is the last one", backward(), backward(), machine(0,
			state(inf, [4]int{0, 0, 0, 3}, [4]int{0, 0, 0, 6}),
			state(most, [4]int{5, 0, most, 2}, [4]int{5, 0, most, 2}),
			state(4),
			state(inf, [4]int{9, 8, 7, 3}, [4]int{0, 0, 6, 1}, [4]int{api.MaxLabel, api.MaxLabel, 0, 2}),
			state(most, [4]int{5, 0, most, 5}, [4]int{5, 0, most, 5}),
			state(4),
			state(inf, [4]int{9, 8, 7, 6}, [4]int{0, 0, 6, 4}, [4]int{api.MaxLabel, api.MaxLabel, 0, 5}))},
	} {
		got, err := Union(c.a, c.b)
		checkBuilt(t, c.what, got, err, c.want)
	}
}

// P10.3
func TestConcat(t *testing.T) {
	nothing := machine(-1)
	for _, c := range []struct {
		what       string
		a, b, want api.Machine
	}{
		{"nothing, then nothing", nothing, nothing, nothing},
		{"nothing, then simple", nothing, simple(), machine(-1, state(inf, [4]int{1, 2, 3, 1}), state(0))},
		{"simple, then nothing", simple(), nothing, machine(0, state(inf, [4]int{1, 2, 3, 1}), state(inf))},
		{"simple, then simple", simple(), simple(), machine(0,
			state(inf, [4]int{1, 2, 3, 1}), state(inf, [4]int{0, 0, 0, 2}),
			state(inf, [4]int{1, 2, 3, 3}), state(0))},
		{"no Start at first", startingAt(simple(), -1), machine(0, state(8)), machine(-1,
			state(inf, [4]int{1, 2, 3, 1}), state(inf, [4]int{0, 0, 0, 2}), state(8))},
		{"no Start behind: the ends go all the same", backward(), machine(-1, state(8)), machine(2,
			state(inf, [4]int{5, 0, most, 1}, [4]int{5, 0, most, 1}),
			state(inf),
			state(inf, [4]int{9, 8, 7, 2}, [4]int{0, 0, 6, 0}, [4]int{api.MaxLabel, api.MaxLabel, 0, 1}),
			state(8))},
		{"no end at first", machine(0, state(inf, [4]int{0, 0, 0, 0})), machine(0, state(1)), machine(0,
			state(inf, [4]int{0, 0, 0, 0}), state(1))},
		{"no end behind", machine(0, state(1)), machine(0, state(inf)), machine(0, state(inf, [4]int{0, 0, 1, 1}), state(inf))},
		{"ends for most", machine(0, state(most)), machine(0, state(most)), machine(0, state(inf, [4]int{0, 0, most, 1}), state(most))},
		{"Start is the last one", backward(), backward(), machine(2,
			state(inf, [4]int{5, 0, most, 1}, [4]int{5, 0, most, 1}, [4]int{0, 0, most, 5}),
			state(inf, [4]int{0, 0, 4, 5}),
			state(inf, [4]int{9, 8, 7, 2}, [4]int{0, 0, 6, 0}, [4]int{api.MaxLabel, api.MaxLabel, 0, 1}),
			state(most, [4]int{5, 0, most, 4}, [4]int{5, 0, most, 4}),
			state(4),
			state(inf, [4]int{9, 8, 7, 5}, [4]int{0, 0, 6, 3}, [4]int{api.MaxLabel, api.MaxLabel, 0, 4}))},
	} {
		got, err := Concat(c.a, c.b)
		checkBuilt(t, c.what, got, err, c.want)
	}
}

// P10.4
func TestStar(t *testing.T) {
	for _, c := range []struct {
		what    string
		a, want api.Machine
	}{
		{"nothing", machine(-1), machine(0, state(0))},
		{"simple", simple(), machine(0, state(0, [4]int{0, 0, 0, 1}), state(inf, [4]int{1, 2, 3, 2}), state(inf, [4]int{0, 0, 0, 0}))},
		{"no Start: the ends go all the same", startingAt(simple(), -1), machine(0,
			state(0), state(inf, [4]int{1, 2, 3, 2}), state(inf, [4]int{0, 0, 0, 0}))},
		{"no end", machine(0, state(inf, [4]int{1, 1, 1, 0})), machine(0, state(0, [4]int{0, 0, 0, 1}), state(inf, [4]int{1, 1, 1, 1}))},
		{"one that ends for 0", machine(0, state(0)), machine(0, state(0, [4]int{0, 0, 0, 1}), state(inf, [4]int{0, 0, 0, 0}))},
		{"one that ends for most", machine(0, state(most)), machine(0, state(0, [4]int{0, 0, 0, 1}), state(inf, [4]int{0, 0, most, 0}))},
		{"Start is the last one", backward(), machine(0,
			state(0, [4]int{0, 0, 0, 3}),
			state(inf, [4]int{5, 0, most, 2}, [4]int{5, 0, most, 2}, [4]int{0, 0, most, 0}),
			state(inf, [4]int{0, 0, 4, 0}),
			state(inf, [4]int{9, 8, 7, 3}, [4]int{0, 0, 6, 1}, [4]int{api.MaxLabel, api.MaxLabel, 0, 2}))},
	} {
		got, err := Star(c.a)
		checkBuilt(t, c.what, got, err, c.want)
	}
}

type fullCase struct {
	what string
	a, b api.Machine
	want api.Errno
}

func checkFull(t *testing.T, does func(a, b api.Machine) (api.Machine, api.Errno), states, arcs int, cases []fullCase) {
	t.Helper()
	for _, c := range cases {
		got, err := does(c.a, c.b)
		if c.want != api.OK {
			checkRefused(t, c.what, got, err, c.want)
			continue
		}
		n, e := core.Count(got)
		if err != api.OK || e != api.OK || n.States > states || n.Arcs > arcs || n.States < states && n.Arcs < arcs {
			t.Errorf("%s: %v states and arcs, %v, want %d or %d of them", c.what, n, err, states, arcs)
		}
	}
}

// P10.1: as many as may be, and one more; the new state and the new arcs count, arcs to a Start that is none do not.
func TestFullUnions(t *testing.T) {
	nothing, all, noStart := machine(-1), api.MaxArcs, startingAt(sized(1, 0), -1)
	checkFull(t, Union, api.MaxStates, api.MaxArcs, []fullCase{
		{"59 states and none", sized(59, 0), nothing, api.OK},
		{"60 states and none", sized(60, 0), nothing, api.ErrFull},
		{"none and 59 states", nothing, sized(59, 0), api.OK},
		{"none and 60 states", nothing, sized(60, 0), api.ErrFull},
		{"29 and 30 states", sized(29, 0), sized(30, 0), api.OK},
		{"30 and 30 states", sized(30, 0), sized(30, 0), api.ErrFull},
		{"60 and 60 states", sized(60, 0), sized(60, 0), api.ErrFull},
		{"199 and 199 arcs", sized(5, 199), sized(5, 199), api.OK},
		{"199 and 200 arcs", sized(5, 199), sized(5, 200), api.ErrFull},
		{"all but one arc, nothing behind", sized(5, all-1), nothing, api.OK},
		{"all arcs, nothing behind", sized(5, all), nothing, api.ErrFull},
		{"all but one arc, no Start behind", sized(5, all-1), noStart, api.OK},
		{"all but one arc, no Start at first", noStart, sized(5, all-1), api.OK},
		{"all but one arc, both Starts", sized(5, all-1), sized(1, 0), api.ErrFull},
		{"all arcs, no Start at all", startingAt(sized(5, all), -1), noStart, api.OK},
		{"one arc more, no Start at all", startingAt(sized(5, all), -1), startingAt(sized(5, 1), -1), api.ErrFull},
		{"all states and all arcs", sized(58, all-2), sized(1, 0), api.OK},
		{"all states and all arcs, twice", sized(60, all), sized(60, all), api.ErrFull},
	})
}

// P10.1
func TestFullConcats(t *testing.T) {
	nothing, all := machine(-1), api.MaxArcs
	checkFull(t, Concat, api.MaxStates, api.MaxArcs, []fullCase{
		{"60 states and none", sized(60, 0), nothing, api.OK},
		{"none and 60 states", nothing, sized(60, 0), api.OK},
		{"30 and 30 states", sized(30, 0), sized(30, 0), api.OK},
		{"30 and 31 states", sized(30, 0), sized(31, 0), api.ErrFull},
		{"31 and 30 states", sized(31, 0), sized(30, 0), api.ErrFull},
		{"60 states and one", sized(60, 0), sized(1, 0), api.ErrFull},
		{"200 and 200 arcs, no end", sized(5, 200), sized(5, 200), api.OK},
		{"200 and 201 arcs, no end", sized(5, 200), sized(5, 201), api.ErrFull},
		{"200 and 197 arcs, three ends", ending(sized(5, 200), 3), sized(5, 197), api.OK},
		{"200 and 198 arcs, three ends", ending(sized(5, 200), 3), sized(5, 198), api.ErrFull},
		{"200 and 200 arcs, ends behind", sized(5, 200), ending(sized(5, 200), 5), api.OK},
		{"200 and 200 arcs, an end, no Start behind", ending(sized(5, 200), 1), startingAt(sized(5, 200), -1), api.OK},
		{"200 and 200 arcs, an end, no Start at first", startingAt(ending(sized(5, 200), 1), -1), sized(5, 200), api.ErrFull},
		{"all arcs, ends, nothing behind", ending(sized(5, all), 5), nothing, api.OK},
		{"all arcs, an end, one state behind", ending(sized(5, all), 1), sized(1, 0), api.ErrFull},
		{"all states and all arcs, twice", sized(60, all), sized(60, all), api.ErrFull},
	})
}

// P10.1
func TestFullStars(t *testing.T) {
	all := api.MaxArcs
	star := func(a, _ api.Machine) (api.Machine, api.Errno) { return Star(a) }
	checkFull(t, star, api.MaxStates, api.MaxArcs, []fullCase{
		{what: "59 states", a: ending(sized(59, 0), 59)},
		{what: "60 states", a: ending(sized(60, 0), 60), want: api.ErrFull},
		{what: "60 states, no Start", a: startingAt(sized(60, 0), -1), want: api.ErrFull},
		{what: "all but one arc, no end", a: sized(5, all-1)},
		{what: "all arcs, no end", a: sized(5, all), want: api.ErrFull},
		{what: "all but one arc, an end", a: ending(sized(5, all-1), 1), want: api.ErrFull},
		{what: "all but six arcs, five ends", a: ending(sized(5, all-6), 5)},
		{what: "all but five arcs, five ends", a: ending(sized(5, all-5), 5), want: api.ErrFull},
		{what: "all arcs, no end, no Start", a: startingAt(sized(5, all), -1)},
		{what: "all arcs, an end, no Start", a: startingAt(ending(sized(5, all), 1), -1), want: api.ErrFull},
		{what: "all states and all arcs, with the new ones", a: ending(sized(59, all-60), 59)},
		{what: "all states and all arcs", a: ending(sized(60, all), 60), want: api.ErrFull},
	})
}

type wrongMachine struct {
	what    string
	machine api.Machine
}

func wrongMachines() []wrongMachine {
	l := []wrongMachine{
		{"no states, Start 0", api.Machine{}},
		{"no states, Start 1", api.Machine{Start: 1}},
		{"a state too many", sized(api.MaxStates+1, 0)},
		{"an arc too many", sized(5, api.MaxArcs+1)},
		{"a state too many, no such Start", startingAt(sized(api.MaxStates+1, 0), -2)},
		{"as many states as may be, no such Start", startingAt(sized(api.MaxStates, 0), -2)},
		{"as many arcs as may be, no such Start", startingAt(sized(5, api.MaxArcs), 5)},
	}
	add := func(what string, n int, do func(m *api.Machine)) {
		m := backward()
		do(&m)
		l = append(l, wrongMachine{what + " " + strconv.Itoa(n), m})
	}
	for _, n := range []int{math.MinInt, math.MaxInt, -2, inf + 1} {
		add("Start", n, func(m *api.Machine) { m.Start = n })
		add("Final", n, func(m *api.Machine) { m.States[1].Final = n })
		add("In", n, func(m *api.Machine) { m.States[2].Arcs[1].In = n })
		add("Out", n, func(m *api.Machine) { m.States[2].Arcs[1].Out = n })
		add("Weight", n, func(m *api.Machine) { m.States[2].Arcs[1].Weight = n })
		add("To", n, func(m *api.Machine) { m.States[2].Arcs[1].To = n })
	}
	add("Start", 3, func(m *api.Machine) { m.Start = 3 })
	add("Final", -1, func(m *api.Machine) { m.States[0].Final = -1 })
	add("In", api.MaxLabel+1, func(m *api.Machine) { m.States[0].Arcs[0].In = api.MaxLabel + 1 })
	add("Out", api.MaxLabel+1, func(m *api.Machine) { m.States[0].Arcs[0].Out = api.MaxLabel + 1 })
	add("Weight", inf, func(m *api.Machine) { m.States[0].Arcs[0].Weight = inf })
	add("To", 3, func(m *api.Machine) { m.States[2].Arcs[2].To = 3 })
	add("To", -1, func(m *api.Machine) { m.States[0].Arcs[0].To = -1 })
	return l
}

// P4.1: a machine that is not right is refused ahead of all else, the first one first.
func TestMachinesThatAreNotRightAreRefused(t *testing.T) {
	wrong, great := wrongMachines(), sized(api.MaxStates, api.MaxArcs)
	for _, c := range wrong {
		want := core.Check(c.machine)
		if want == api.OK {
			t.Errorf("%s: the machine is right", c.what)
		}
		got, err := Star(c.machine)
		checkRefused(t, "Star: "+c.what, got, err, want)
		for _, f := range calls()[:2] {
			for _, other := range []api.Machine{machine(-1), simple(), great} {
				got, err = f.does(c.machine, other)
				checkRefused(t, f.name+": at first "+c.what, got, err, want)
				got, err = f.does(other, c.machine)
				checkRefused(t, f.name+": behind "+c.what, got, err, want)
			}
			for _, other := range wrong {
				got, err = f.does(c.machine, other.machine)
				checkRefused(t, f.name+": "+c.what+", then "+other.what, got, err, want)
			}
		}
	}
}

// drawn: a machine of a few states and small numbers, the same one for each seed; some have no Start.
func drawn(seed uint64) api.Machine {
	draw := func(most int) int {
		seed = seed*6364136223846793005 + 1442695040888963407
		return int((seed >> 33) % uint64(most))
	}
	n := draw(5)
	m := api.Machine{Start: min(draw(4*n+1)-1, n-1), States: make([]api.State, n)}
	for q := range m.States {
		m.States[q].Final = []int{inf, inf, 0, draw(9)}[draw(4)]
		for range draw(4) {
			a := api.Arc{In: draw(3), Out: draw(3), Weight: draw(9), To: draw(n)}
			m.States[q].Arcs = append(m.States[q].Arcs, a)
		}
	}
	return m
}

// Words that are asked for are these labels, and pieces of them.
type words struct {
	in, out []int
}

// cost of the cheapest path for two words, or inf; each place is reached along fewer arcs than there are places.
func cost(m api.Machine, w words) int {
	if m.Start < 0 {
		return inf
	}
	type place struct{ state, in, out int }
	costs := map[place]int{{state: m.Start}: 0}
	for range len(m.States) * (len(w.in) + 1) * (len(w.out) + 1) {
		next := map[place]int{}
		for p, c := range costs {
			least(next, p, c)
			for _, a := range m.States[p.state].Arcs {
				to := place{a.To, along(w.in, p.in, a.In), along(w.out, p.out, a.Out)}
				if to.in >= 0 && to.out >= 0 {
					least(next, to, c+a.Weight)
				}
			}
		}
		costs = next
	}
	best := inf
	for q, s := range m.States {
		if c, ok := costs[place{q, len(w.in), len(w.out)}]; ok && s.Final != inf {
			best = min(best, c+s.Final)
		}
	}
	return best
}

func least[K comparable](costs map[K]int, k K, c int) {
	if old, ok := costs[k]; !ok || c < old {
		costs[k] = c
	}
}

// along: the place in a word behind a label, or -1 if it does not stand there.
func along(word []int, at, label int) int {
	switch {
	case label == api.Empty:
		return at
	case at < len(word) && word[at] == label:
		return at + 1
	}
	return -1
}

// cuts: all ways to cut both words in two.
func cuts(w words) [][2]words {
	var l [][2]words
	for i := range len(w.in) + 1 {
		for j := range len(w.out) + 1 {
			l = append(l, [2]words{{w.in[:i], w.out[:j]}, {w.in[i:], w.out[j:]}})
		}
	}
	return l
}

// chainCost: what the best cut costs.
func chainCost(a, b api.Machine, w words) int {
	best := inf
	for _, c := range cuts(w) {
		best = min(best, cost(a, c[0])+cost(b, c[1]))
	}
	return best
}

// starCost: what it costs to do it any number of times; a time that takes nothing of the words makes nothing cheaper.
func starCost(a api.Machine, w words) int {
	if len(w.in)+len(w.out) == 0 {
		return 0
	}
	best := inf
	for _, c := range cuts(w)[1:] {
		if first := cost(a, c[0]); first < inf {
			best = min(best, first+starCost(a, c[1]))
		}
	}
	return best
}

// What comes of P10.2 to P10.4: what words cost.
func TestWhatWordsCost(t *testing.T) {
	pairs := []words{{}, {in: []int{1}}, {out: []int{2}}, {[]int{1}, []int{2}}, {[]int{1, 2}, []int{1}}, {[]int{2, 1}, []int{2, 2}}}
	found := 0
	for seed := range uint64(150) {
		a, b := drawn(seed), drawn(seed+1000)
		u, _ := Union(a, b)
		c, _ := Concat(a, b)
		s, _ := Star(a)
		for _, w := range pairs {
			if got, want := cost(u, w), min(cost(a, w), cost(b, w)); got != want {
				t.Errorf("%v or %v costs %d for %v, want %d", a, b, got, w, want)
			}
			chain := chainCost(a, b, w)
			if got := cost(c, w); got != chain {
				t.Errorf("%v, then %v costs %d for %v, want %d", a, b, got, w, chain)
			}
			if got, want := cost(s, w), starCost(a, w); got != want {
				t.Errorf("%v again and again costs %d for %v, want %d", a, got, w, want)
			}
			if chain < inf {
				found++
			}
		}
	}
	if found < 50 {
		t.Errorf("only %d pairs of words cost anything", found)
	}
}

// P10.2 to P10.4, of many machines: what stays, by its place and its number.
func TestManyMachines(t *testing.T) {
	for seed := range uint64(3000) {
		a, b := drawn(seed), drawn(seed+7777)
		n := len(a.States)

		u, err := Union(a, b)
		want := machine(0, append(append([]api.State{startsOf(inf, at(a, 1), at(b, 1+n))}, moved(a, 1)...), moved(b, 1+n)...)...)
		checkBuilt(t, "Union", u, err, want)

		c, err := Concat(a, b)
		want = machine(a.Start, append(endless(moved(a, 0), at(b, n)), moved(b, n)...)...)
		checkBuilt(t, "Concat", c, err, want)

		s, err := Star(a)
		want = machine(0, append([]api.State{startsOf(0, at(a, 1))}, endless(moved(a, 1), 0)...)...)
		checkBuilt(t, "Star", s, err, want)
	}
}

// at: the number of the Start behind so many other states, or -1.
func at(m api.Machine, behind int) int {
	if m.Start < 0 {
		return -1
	}
	return behind + m.Start
}

// startsOf: a state with an empty arc for 0 to each of these states that is one.
func startsOf(final int, starts ...int) api.State {
	s := api.State{Final: final}
	for _, q := range starts {
		if q >= 0 {
			s.Arcs = append(s.Arcs, api.Arc{To: q})
		}
	}
	return s
}

func moved(m api.Machine, behind int) []api.State {
	m = copied(m)
	for _, s := range m.States {
		for i := range s.Arcs {
			s.Arcs[i].To += behind
		}
	}
	return m.States
}

func endless(states []api.State, to int) []api.State {
	for q, s := range states {
		if s.Final != inf && to >= 0 {
			states[q].Arcs = append(s.Arcs, api.Arc{Weight: s.Final, To: to})
		}
		states[q].Final = inf
	}
	return states
}

// What is handed in stays as it is, the spare room of its lists too, and does not count.
func TestMachinesStayAsTheyAre(t *testing.T) {
	wrong := api.Arc{In: -1, Out: -1, Weight: -1, To: -1}
	arcs := []api.Arc{{In: 1, To: 0}, {In: 2, To: 1}, {In: 3, To: 0}, wrong, wrong, wrong}
	keptArcs := slices.Clone(arcs)
	states := []api.State{{Final: 3, Arcs: arcs[:2]}, {Final: 4, Arcs: arcs[1:3]}, {Final: -1, Arcs: arcs[3:]}, {Final: -1}, {Final: -1}}
	keptStates := slices.Clone(states)
	m := api.Machine{States: states[:2]}
	for _, f := range calls() {
		if got, err := f.does(m, m); err != api.OK || core.Check(got) != api.OK {
			t.Errorf("%s looks into the spare room: %v, %v", f.name, got, err)
		}
		if !slices.Equal(arcs, keptArcs) || !reflect.DeepEqual(states, keptStates) {
			t.Errorf("%s: the arcs became %v, the states %v", f.name, arcs, states)
		}
	}
}

// fill writes over all that a machine has, the spare room too.
func fill(m api.Machine) {
	for _, s := range m.States {
		arcs := s.Arcs[:cap(s.Arcs)]
		for i := range arcs {
			arcs[i] = api.Arc{In: -7, Out: -7, Weight: -7, To: -7}
		}
	}
	states := m.States[:cap(m.States)]
	for q := range states {
		states[q] = api.State{Final: -7}
	}
}

// An answer is new memory: what is written over it is seen nowhere else, not even if one machine is handed in twice.
func TestAnswersAreNewMemory(t *testing.T) {
	for _, m := range []api.Machine{simple(), backward(), ending(sized(9, 90), 5), sized(20, 60), machine(0, state(inf), state(0))} {
		kept := copied(m)
		for _, f := range calls() {
			first, _ := f.does(m, m)
			second, _ := f.does(m, m)
			want := copied(second)
			fill(first)
			if !alike(m, kept) {
				t.Errorf("%s shares memory with what was handed in: %v", f.name, m)
			}
			if !alike(second, want) {
				t.Errorf("%s shares memory with another answer: %v", f.name, second)
			}
			for q := range second.States {
				fill(api.Machine{States: second.States[q : q+1 : q+1]})
				for r := q + 1; r < len(second.States); r++ {
					if !slices.Equal(second.States[r].Arcs, want.States[r].Arcs) {
						t.Errorf("%s: states %d and %d share memory", f.name, q, r)
					}
				}
			}
		}
	}
}

// Nothing is kept from call to call, nor of one that was refused.
func TestNothingIsKept(t *testing.T) {
	for _, m := range []api.Machine{sized(60, 400), sized(20, 100), backward(), {Start: 7}} {
		for _, f := range calls() {
			f.does(m, m)
		}
		got, err := Union(machine(-1), machine(-1))
		checkBuilt(t, "Union behind another one", got, err, machine(0, state(inf)))
		got, err = Concat(machine(-1), machine(-1))
		checkBuilt(t, "Concat behind another one", got, err, machine(-1))
		got, err = Star(machine(-1))
		checkBuilt(t, "Star behind another one", got, err, machine(0, state(0)))
	}
}
