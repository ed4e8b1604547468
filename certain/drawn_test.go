package certain

import (
	"reflect"
	"slices"
	"testing"

	"tropica/api"
	"tropica/core"
	"tropica/weigh"
)

func drawer(seed uint64) func(most int) int {
	return func(most int) int {
		seed = seed*6364136223846793005 + 1442695040888963407
		return int((seed >> 33) % uint64(most))
	}
}

// drawn: a machine of a few states, the same one for each seed; some have no Start, some an empty arc, some cost much, some have many labels.
func drawn(seed uint64) api.Machine {
	draw := drawer(seed)
	n := draw(7)
	unit := []int{0, 1, 1, most / 8}[draw(4)]
	labels, each := []int{2, 3, 9}[draw(3)], []int{3, 4, 5, 40}[draw(4)]
	m := api.Machine{Start: min(draw(5*n+1)-1, n-1), States: make([]api.State, n)}
	for q := range m.States {
		m.States[q].Final = []int{inf, inf, 0, unit * draw(9)}[draw(4)]
		for range draw(each) {
			a := arc(draw(labels), draw(3), unit*draw(9), draw(n))
			if a.In == 0 && a.Out == 0 && draw(40) > 0 {
				a.In = 1
			}
			m.States[q].Arcs = append(m.States[q].Arcs, a)
		}
	}
	return m
}

// slowEnd of a set, which tells of each state what is left (-1: it is not in it).
func slowEnd(m api.Machine, left []int) int {
	end := -1
	for q, n := range left {
		if f := m.States[q].Final; n >= 0 && f != inf && (end < 0 || n+f < end) {
			end = n + f
		}
	}
	return end
}

// slowStep from a set along one pair of labels: what the arc costs (-1: there is none), and the set behind it.
func slowStep(m api.Machine, left []int, in, out int) (int, []int) {
	costs, least := slices.Repeat([]int{-1}, len(left)), -1
	for q, n := range left {
		for _, a := range m.States[q].Arcs {
			if n < 0 || a.In != in || a.Out != out {
				continue
			}
			if c := n + a.Weight; costs[a.To] < 0 || c < costs[a.To] {
				costs[a.To] = c
			}
		}
	}
	for _, c := range costs {
		if c >= 0 && (least < 0 || c < least) {
			least = c
		}
	}
	for p := range costs {
		if costs[p] >= 0 {
			costs[p] -= least
		}
	}
	return least, costs
}

// labelsOf a machine: one more than the highest one that it has.
func labelsOf(m api.Machine) int {
	n := 0
	for _, s := range m.States {
		for _, a := range s.Arcs {
			n = max(n, a.In+1, a.Out+1)
		}
	}
	return n
}

func hasEmpty(m api.Machine) bool {
	return slices.ContainsFunc(m.States, func(s api.State) bool {
		return slices.ContainsFunc(s.Arcs, func(a api.Arc) bool { return a.In+a.Out == 0 })
	})
}

// slow: what the promise says, word by word; all pairs of labels are tried, and sets are looked for one by one.
func slow(m api.Machine) (api.Machine, api.Errno) {
	if hasEmpty(m) {
		return api.Machine{}, api.ErrEmpty
	}
	if m.Start < 0 {
		return machine(-1), api.OK
	}
	first := slices.Repeat([]int{-1}, len(m.States))
	first[m.Start] = 0
	sets, out, arcs, labels := [][]int{first}, api.Machine{}, 0, labelsOf(m)
	for len(out.States) < len(sets) {
		from := sets[len(out.States)]
		s := state(slowEnd(m, from))
		if s.Final > most {
			return api.Machine{}, api.ErrOver
		}
		if s.Final < 0 {
			s.Final = inf
		}
		for pair := range labels * labels {
			a := arc(pair/labels, pair%labels, 0, 0)
			cost, to := slowStep(m, from, a.In, a.Out)
			if cost < 0 {
				continue
			}
			if cost > most {
				return api.Machine{}, api.ErrOver
			}
			a.Weight = cost
			isSame := func(l []int) bool { return slices.Equal(l, to) }
			if a.To = slices.IndexFunc(sets, isSame); a.To < 0 {
				a.To = len(sets)
				sets = append(sets, to)
			}
			s.Arcs = append(s.Arcs, a)
			if arcs++; arcs > api.MaxArcs || len(sets) > api.MaxStates {
				return api.Machine{}, api.ErrFull
			}
		}
		out.States = append(out.States, s)
	}
	return out, api.OK
}

// checkSlow tells what Make answered.
func checkSlow(t *testing.T, m api.Machine) api.Errno {
	t.Helper()
	want, wantErr := slow(m)
	got, err := Make(m)
	if err != wantErr || !equal(got, want) {
		t.Errorf("%v became %v, %v, want %v, %v", m, got, err, want, wantErr)
	}
	return err
}

// P17.1, of many machines
func TestManyMachines(t *testing.T) {
	answers := map[api.Errno]int{}
	for seed := range uint64(7000) {
		answers[checkSlow(t, drawn(seed))]++
	}
	for _, err := range []api.Errno{api.OK, api.ErrEmpty, api.ErrOver, api.ErrFull} {
		if answers[err] < 200 {
			t.Errorf("there are too few answers of a kind: %v", answers)
		}
	}
}

// P17.1: the answer is right, Certain and Sorted; made certain again, it stays as it is.
func TestAnswersAreCertain(t *testing.T) {
	states := 0
	for seed := range uint64(3000) {
		m := drawn(seed)
		got, err := Make(m)
		if err != api.OK {
			continue
		}
		if like, err := core.Bits(got); err != api.OK || !like.Certain || !like.Sorted {
			t.Errorf("%v became %v: its Bits are %v, %v", m, got, like, err)
		}
		checkMade(t, "again", got, got)
		states += len(got.States)
	}
	if states < 3000 {
		t.Errorf("only %d states were made", states)
	}
}

// What comes of it: no pair of words costs more or less for it.
func TestWordsCostTheSame(t *testing.T) {
	words := [][]int{nil, {1}, {2}, {1, 1}, {1, 2}, {2, 1}, {2, 2}, {1, 2, 1}, {1, 1, 1}}
	costly := 0
	for seed := range uint64(2000) {
		m := drawn(seed)
		got, err := Make(m)
		if err != api.OK {
			continue
		}
		for _, x := range words {
			for _, y := range words {
				want, wantErr := weigh.Weigh(m, x, y)
				cost, err := weigh.Weigh(got, x, y)
				if cost != want || err != wantErr {
					t.Errorf("%v costs %d, %v for %v and %v, made certain %d, %v", m, want, wantErr, x, y, cost, err)
				}
				if cost > 0 && cost < inf {
					costly++
				}
			}
		}
	}
	if costly < 1000 {
		t.Errorf("only %d pairs of words cost anything", costly)
	}
}

// great: as many states and arcs as may be, of few labels, each weight a few times the unit.
func great(labels, unit, step int) api.Machine {
	m := api.Machine{States: make([]api.State, api.MaxStates)}
	for i := range api.MaxArcs {
		q := i % api.MaxStates
		a := by(1+i%labels, min(most, unit*(i%7)), (q*step+i/api.MaxStates+1)%api.MaxStates)
		m.States[q].Arcs = append(m.States[q].Arcs, a)
	}
	for q := range m.States {
		m.States[q].Final = []int{inf, 0, q}[q%3]
	}
	return m
}

// Every call ends: great machines of many kinds.
func TestGreatMachines(t *testing.T) {
	answers := map[api.Errno]int{}
	for _, labels := range []int{1, 2, 3, 5, 7, 50} {
		for _, unit := range []int{0, 1, most / 100, most} {
			for _, step := range []int{0, 1, 2, 7} {
				answers[checkSlow(t, great(labels, unit, step))]++
			}
		}
	}
	if answers[api.OK] == 0 || answers[api.ErrFull] == 0 {
		t.Errorf("answers of one kind only: %v", answers)
	}
	checkSlow(t, growing(most, most))
	checkSlow(t, chain(api.MaxStates, most))
	checkSlow(t, dear(29, 0))
	checkSlow(t, machine(0, state(0, slices.Repeat([]api.Arc{by(1, most, 0)}, api.MaxArcs)...)))
}

// The numbers that TestWhichErrorComesFirst leans on are just those at the edge.
func TestEdgesOfErrors(t *testing.T) {
	for left := range api.MaxStates + 3 {
		checkSlow(t, growing(inf, most-left))
	}
	for n := 190; n < 205; n++ {
		for _, more := range [][]api.Arc{nil, {by(40, 0, 0)}, {by(40, most, 0)}, {arc(1, 6, most, 0), by(40, 0, 0)}, {arc(1, 6, 0, 0), by(40, most, 0)}} {
			m := doubled(spread(0, 0), more)
			for i := range n {
				m.States[1].Arcs = append(m.States[1].Arcs, arc(1+i/20, 8+i%20, i, 0))
			}
			checkSlow(t, m)
		}
	}
}

func copied(m api.Machine) api.Machine {
	m.States = slices.Clone(m.States)
	for q := range m.States {
		m.States[q].Arcs = slices.Clone(m.States[q].Arcs)
	}
	return m
}

// What is handed in stays as it is, the spare room of its lists too, and does not count.
func TestWhatIsHandedInStays(t *testing.T) {
	wrong := arc(-1, -1, -1, -1)
	arcs := []api.Arc{by(2, 3, 1), by(1, 1, 1), by(1, 5, 0), wrong, wrong}
	states := []api.State{{Final: inf, Arcs: arcs[:3]}, {Final: 4, Arcs: arcs[1:3]}, {Final: -1, Arcs: arcs[3:]}, {Final: -1}}
	keptArcs, keptStates := slices.Clone(arcs), slices.Clone(states)
	if err := checkSlow(t, api.Machine{States: states[:2]}); err != api.OK {
		t.Errorf("with spare room: %v", err)
	}
	checkRefused(t, "wrong ones", api.Machine{States: states}, api.ErrRange)
	checkMade(t, "one state", api.Machine{States: []api.State{{Arcs: arcs[2:3]}}}, machine(0, state(0, by(1, 5, 0))))
	if !slices.Equal(arcs, keptArcs) || !reflect.DeepEqual(states, keptStates) {
		t.Errorf("the arcs became %v, the states %v", arcs, states)
	}
}

// fill writes over all that a machine has, the spare room too.
func fill(m api.Machine) {
	for _, s := range m.States {
		arcs := s.Arcs[:cap(s.Arcs)]
		for i := range arcs {
			arcs[i] = arc(-7, -7, -7, -7)
		}
	}
	states := m.States[:cap(m.States)]
	for q := range states {
		states[q] = api.State{Final: -7}
	}
}

// An answer is new memory: what is written over it is seen nowhere else.
func TestAnswersAreNewMemory(t *testing.T) {
	shared := []api.Arc{by(1, 1, 0), by(2, 3, 1), by(2, 3, 2), by(3, 3, 0), by(4, 2, 2)}
	ours := machine(0, state(0, shared[:3]...), state(1, shared[1:4]...), state(2, shared[2:]...))
	for _, m := range []api.Machine{ours, chain(9, 1, spread(3, 0)...), doubled(spread(100, 0), spread(50, 1)), great(7, 0, 0)} {
		kept := copied(m)
		first, err := Make(m)
		second, _ := Make(m)
		if err != api.OK {
			t.Errorf("%v is refused: %v", m, err)
		}
		want := copied(second)
		fill(first)
		if !equal(m, kept) {
			t.Errorf("shares memory with what was handed in: %v", m)
		}
		if !equal(second, want) {
			t.Errorf("shares memory with another answer: %v", second)
		}
		for q := range second.States {
			fill(api.Machine{States: second.States[q : q+1 : q+1]})
			for r := q + 1; r < len(second.States); r++ {
				if !slices.Equal(second.States[r].Arcs, want.States[r].Arcs) {
					t.Errorf("states %d and %d share memory", q, r)
				}
			}
		}
	}
}

// Nothing is kept from call to call, nor of one that was refused.
func TestNothingIsKept(t *testing.T) {
	m := machine(0, state(inf, by(1, 2, 1), by(1, 5, 2)), state(4), state(0))
	want := machine(0, state(inf, by(1, 2, 1)), state(3))
	for _, before := range []api.Machine{growing(0, 0), growing(most, most), chain(60, 1), dear(29, 0), machine(0, state(0, api.Arc{})), machine(-1), {Start: 7}} {
		Make(before)
		checkMade(t, "behind another one", m, want)
	}
}
