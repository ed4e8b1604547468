package empties

import (
	"reflect"
	"slices"
	"testing"

	"tropica/api"
	"tropica/core"
	"tropica/weigh"
)

// drawn: a machine of a few states and small numbers, the same one for each seed; some have no Start, some cost much, some have many arcs.
func drawn(seed uint64) api.Machine {
	draw := drawer(seed)
	n := draw(6)
	unit := []int{1, 1, 1, most / 8}[draw(4)]
	each, labels := 5, 3
	if n > 0 && draw(5) == 0 {
		each, labels = 80, 40
	}
	m := api.Machine{Start: min(draw(4*n+1)-1, n-1), States: make([]api.State, n)}
	for q := range m.States {
		m.States[q].Final = []int{inf, inf, 0, unit * draw(9)}[draw(4)]
		for range draw(each) {
			a := api.Arc{In: draw(labels), Out: draw(3), Weight: unit * draw(9), To: draw(n)}
			if draw(3) == 0 {
				a.In, a.Out = 0, 0
			}
			m.States[q].Arcs = append(m.States[q].Arcs, a)
		}
	}
	return m
}

func drawer(seed uint64) func(most int) int {
	return func(most int) int {
		seed = seed*6364136223846793005 + 1442695040888963407
		return int((seed >> 33) % uint64(most))
	}
}

// slowHops of a state: one more empty arc each time, as often as there are states; -1: none.
func slowHops(m api.Machine, q int) []int {
	hops := slices.Repeat([]int{-1}, len(m.States))
	hops[q] = 0
	for range m.States {
		for p, s := range m.States {
			for _, a := range s.Arcs {
				if a.In != 0 || a.Out != 0 || hops[p] < 0 {
					continue
				}
				if c := hops[p] + a.Weight; hops[a.To] < 0 || c < hops[a.To] {
					hops[a.To] = c
				}
			}
		}
	}
	return hops
}

// slowArcs of a state: all that its hops lead to, in order, and of those that are alike the first one.
func slowArcs(m api.Machine, hops []int) []api.Arc {
	var all, left []api.Arc
	for p, s := range m.States {
		for _, a := range s.Arcs {
			if hops[p] >= 0 && (a.In != 0 || a.Out != 0) {
				a.Weight += hops[p]
				all = append(all, a)
			}
		}
	}
	slices.SortFunc(all, func(a, b api.Arc) int {
		return slices.Compare([]int{a.In, a.Out, a.To, a.Weight}, []int{b.In, b.Out, b.To, b.Weight})
	})
	for _, a := range all {
		last := api.Arc{In: -1}
		if len(left) > 0 {
			last = left[len(left)-1]
		}
		if a.In != last.In || a.Out != last.Out || a.To != last.To {
			left = append(left, a)
		}
	}
	return left
}

// slow: what the promise says, word by word.
func slow(m api.Machine) (api.Machine, api.Errno) {
	out, over, arcs := api.Machine{Start: m.Start}, false, 0
	for q := range m.States {
		hops := slowHops(m, q)
		s := api.State{Final: -1, Arcs: slowArcs(m, hops)}
		for p, r := range m.States {
			if c := hops[p] + r.Final; hops[p] >= 0 && r.Final != inf && (s.Final < 0 || c < s.Final) {
				s.Final = c
			}
		}
		over = over || s.Final > most || slices.ContainsFunc(s.Arcs, func(a api.Arc) bool { return a.Weight > most })
		if s.Final < 0 {
			s.Final = inf
		}
		arcs += len(s.Arcs)
		out.States = append(out.States, s)
	}
	switch {
	case over:
		return api.Machine{}, api.ErrOver
	case arcs > api.MaxArcs:
		return api.Machine{}, api.ErrFull
	}
	return out, api.OK
}

// checkSlow tells what Remove answered.
func checkSlow(t *testing.T, m api.Machine) api.Errno {
	t.Helper()
	want, wantErr := slow(m)
	got, err := Remove(m)
	if err != wantErr || !equal(got, want) {
		t.Errorf("%v became %v, %v, want %v, %v", m, got, err, want, wantErr)
	}
	return err
}

// P14.1, of many machines
func TestManyMachines(t *testing.T) {
	answers := map[api.Errno]int{}
	for seed := range uint64(5000) {
		answers[checkSlow(t, drawn(seed))]++
	}
	if answers[api.OK] < 2000 || answers[api.ErrOver] < 100 || answers[api.ErrFull] < 100 {
		t.Errorf("there are too few answers of a kind: %v", answers)
	}
}

// What comes of P14.1: the answer is right, Full and Sorted, and removed again it stays as it is.
func TestAnswersAreFull(t *testing.T) {
	for seed := range uint64(2000) {
		m := drawn(seed)
		got, err := Remove(m)
		if err != api.OK {
			continue
		}
		if bits, err := core.Bits(got); err != api.OK || !bits.Full || !bits.Sorted {
			t.Errorf("%v became %v: its Bits are %v, %v", m, got, bits, err)
		}
		checkMade(t, "again", got, got)
	}
}

// What comes of P14.1: no pair of words costs more or less for it.
func TestWordsCostTheSame(t *testing.T) {
	words := [][]int{nil, {1}, {2}, {1, 1}, {1, 2}, {2, 1}, {2, 2}, {1, 2, 1}}
	costly := 0
	for seed := range uint64(1500) {
		m := drawn(seed)
		got, err := Remove(m)
		if err != api.OK {
			continue
		}
		for _, x := range words {
			for _, y := range words {
				want, wantErr := weigh.Weigh(m, x, y)
				cost, err := weigh.Weigh(got, x, y)
				if cost != want || err != wantErr {
					t.Errorf("%v costs %d, %v for %v and %v, removed %d, %v", m, want, wantErr, x, y, cost, err)
				}
				if cost > 0 && cost < inf {
					costly++
				}
			}
		}
	}
	if costly < 1000 {
		t.Errorf("only %d pairs of words cost anything", costly)
	}
}

// great: as many states as may be, empty arcs from each to a few others, and so many arcs to state 0 that are not empty.
func great(unit, others int) api.Machine {
	m := api.Machine{States: make([]api.State, api.MaxStates)}
	for i := range api.MaxArcs - others {
		q, step := i%api.MaxStates, i/api.MaxStates
		m.States[q].Arcs = append(m.States[q].Arcs, hop(min(most, unit*(i%5)), (q+1+step*step)%api.MaxStates))
	}
	for i := range others {
		m.States[i*7%api.MaxStates].Arcs = append(m.States[i*7%api.MaxStates].Arcs, arc(1+i%6, 1, i, 0))
	}
	for q := range m.States {
		m.States[q].Final = []int{inf, inf, 9 * q}[q%3]
	}
	return m
}

// Every call ends: great machines, with many cycles, for nothing or not.
func TestGreatMachines(t *testing.T) {
	for _, unit := range []int{0, 1, most / 100, most / 3, most} {
		for _, others := range []int{0, 1, 6, 20, 200, api.MaxArcs} {
			checkSlow(t, great(unit, others))
		}
	}
	checkSlow(t, machine(0, state(0, slices.Repeat([]api.Arc{hop(1, 0)}, api.MaxArcs)...)))
	checkSlow(t, chain(api.MaxStates, most/(api.MaxStates-1), most%(api.MaxStates-1)))
	checkSlow(t, chain(api.MaxStates, most/(api.MaxStates-1), most%(api.MaxStates-1)+1))
	if _, err := Remove(great(1, 6)); err != api.OK {
		t.Errorf("a great machine is refused: %v", err)
	}
}

// What is handed in stays as it is, the spare room of its lists too, and does not count.
func TestWhatIsHandedInStays(t *testing.T) {
	wrong := api.Arc{In: -1, Out: -1, Weight: -1, To: -1}
	arcs := []api.Arc{arc(2, 1, 3, 1), hop(1, 1), arc(1, 2, 5, 0), wrong, wrong}
	states := []api.State{{Final: inf, Arcs: arcs[:2]}, {Final: 4, Arcs: arcs[1:3]}, {Final: -1, Arcs: arcs[3:]}, {Final: -1}}
	keptArcs, keptStates := slices.Clone(arcs), slices.Clone(states)
	checkMade(t, "with spare room", api.Machine{States: states[:2]},
		machine(0, state(5, arc(1, 2, 6, 0), arc(2, 1, 3, 1)), state(4, arc(1, 2, 5, 0))))
	checkRefused(t, "wrong ones", api.Machine{States: states}, api.ErrRange)
	if !slices.Equal(arcs, keptArcs) || !reflect.DeepEqual(states, keptStates) {
		t.Errorf("the arcs became %v, the states %v", arcs, states)
	}
}

func copied(m api.Machine) api.Machine {
	m.States = slices.Clone(m.States)
	for q := range m.States {
		m.States[q].Arcs = slices.Clone(m.States[q].Arcs)
	}
	return m
}

// fill writes over all that a machine has, the spare room too.
func fill(m api.Machine) {
	for _, s := range m.States {
		arcs := s.Arcs[:cap(s.Arcs)]
		for i := range arcs {
			arcs[i] = api.Arc{In: -7, Out: -7, Weight: -7, To: -7}
		}
	}
	states := m.States[:cap(m.States)]
	for q := range states {
		states[q] = api.State{Final: -7}
	}
}

// An answer is new memory: what is written over it is seen nowhere else.
func TestAnswersAreNewMemory(t *testing.T) {
	shared := []api.Arc{arc(2, 1, 3, 1), arc(1, 1, 1, 0), hop(1, 1), hop(2, 0), arc(3, 3, 3, 0)}
	ours := machine(0, state(0, shared[:2]...), state(1, shared[1:4]...), state(2, shared...), state(3, shared[:0]...))
	full := machine(0, state(0, spread(3, 0)...), state(0, spread(4, 1)...))
	for _, m := range []api.Machine{ours, full, great(1, 6), chain(9, 1, 1, spread(3, 0)...)} {
		kept := copied(m)
		first, err := Remove(m)
		second, _ := Remove(m)
		if err != api.OK {
			t.Errorf("%v is refused: %v", m, err)
		}
		want := copied(second)
		fill(first)
		if !equal(m, kept) {
			t.Errorf("shares memory with what was handed in: %v", m)
		}
		if !equal(second, want) {
			t.Errorf("shares memory with another answer: %v", second)
		}
		for q := range second.States {
			fill(api.Machine{States: second.States[q : q+1 : q+1]})
			for r := q + 1; r < len(second.States); r++ {
				if !slices.Equal(second.States[r].Arcs, want.States[r].Arcs) {
					t.Errorf("states %d and %d share memory", q, r)
				}
			}
		}
	}
}

// Nothing is kept from call to call, nor of one that was refused.
func TestNothingIsKept(t *testing.T) {
	m := machine(1, state(0, hop(2, 1)), state(3, arc(1, 2, 4, 0)))
	want := machine(1, state(0, arc(1, 2, 6, 0)), state(3, arc(1, 2, 4, 0)))
	for _, before := range []api.Machine{great(0, 20), great(most, 20), chain(60, most, most), chain(60, 0, 0, spread(7, 0)...), {Start: 7}} {
		Remove(before)
		checkMade(t, "behind another one", m, want)
	}
}
