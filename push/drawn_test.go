package push

import (
	"reflect"
	"slices"
	"testing"

	"tropica/api"
	"tropica/core"
	"tropica/distance"
	"tropica/weigh"
)

// drawn: a machine of a few states and small numbers, the same one for each seed; some have no Start, some cost much.
func drawn(seed uint64) api.Machine {
	draw := drawer(seed)
	n := draw(8)
	unit := []int{1, 1, 1, most / 10}[draw(4)]
	m := api.Machine{Start: min(draw(4*n+1)-1, n-1), States: make([]api.State, n)}
	for q := range m.States {
		m.States[q].Final = []int{inf, inf, 0, unit * draw(9)}[draw(4)]
		for range draw(5) {
			a := api.Arc{In: draw(3), Out: draw(3), Weight: unit * draw(9), To: draw(n)}
			m.States[q].Arcs = append(m.States[q].Arcs, a)
		}
	}
	return m
}

func drawer(seed uint64) func(most int) int {
	return func(most int) int {
		seed = seed*6364136223846793005 + 1442695040888963407
		return int((seed >> 33) % uint64(most))
	}
}

// slowEnds of each state: one more arc each time, as often as there are states; -1: none.
func slowEnds(m api.Machine) []int {
	ends := make([]int, len(m.States))
	for q, s := range m.States {
		ends[q] = s.Final
		if s.Final == inf {
			ends[q] = -1
		}
	}
	for range m.States {
		for q, s := range m.States {
			for _, a := range s.Arcs {
				if c := ends[a.To] + a.Weight; ends[a.To] >= 0 && (ends[q] < 0 || c < ends[q]) {
					ends[q] = c
				}
			}
		}
	}
	return ends
}

func slowAhead(m api.Machine) []bool {
	ahead := make([]bool, len(m.States))
	for range m.States {
		for q, s := range m.States {
			ahead[q] = ahead[q] || q == m.Start
			for _, a := range s.Arcs {
				ahead[a.To] = ahead[a.To] || ahead[q]
			}
		}
	}
	return ahead
}

// slowNumbers: of each state its number when the machine is trimmed; -1: it is not left.
func slowNumbers(m api.Machine) []int {
	ahead, ends, left := slowAhead(m), slowEnds(m), 0
	numbers := slices.Repeat([]int{-1}, len(m.States))
	for q := range numbers {
		if ahead[q] && ends[q] >= 0 {
			numbers[q] = left
			left++
		}
	}
	return numbers
}

// slow: the trimmed machine, with weights and Finals that are told anew.
func slow(m api.Machine, weight func(q int, a api.Arc) int, final func(q int) int) (api.Machine, api.Errno) {
	out, numbers, over := api.Machine{Start: -1}, slowNumbers(m), false
	if m.Start >= 0 {
		out.Start = numbers[m.Start]
	}
	for q, s := range m.States {
		if numbers[q] < 0 {
			continue
		}
		r := api.State{Final: inf}
		if s.Final != inf {
			r.Final = final(q)
			over = over || r.Final > most
		}
		for _, a := range s.Arcs {
			if numbers[a.To] >= 0 {
				r.Arcs = append(r.Arcs, arc(a.In, a.Out, weight(q, a), numbers[a.To]))
				over = over || weight(q, a) > most
			}
		}
		out.States = append(out.States, r)
	}
	if over {
		return api.Machine{}, api.ErrOver
	}
	return out, api.OK
}

// slowPush: what P15.1 says, word by word.
func slowPush(m api.Machine) (api.Machine, int, api.Errno) {
	ends, total := slowEnds(m), 0
	for q, left := range slowNumbers(m) {
		if left >= 0 && ends[q] > most {
			return api.Machine{}, 0, api.ErrOver
		}
		if left >= 0 && q == m.Start {
			total = ends[q]
		}
	}
	out, err := slow(m,
		func(q int, a api.Arc) int { return a.Weight + ends[a.To] - ends[q] },
		func(q int) int { return m.States[q].Final - ends[q] })
	if err != api.OK {
		return api.Machine{}, 0, err
	}
	return out, total, api.OK
}

// slowPull: what P15.2 says, word by word.
func slowPull(m api.Machine, total int) (api.Machine, api.Errno) {
	return slow(m,
		func(_ int, a api.Arc) int { return a.Weight },
		func(q int) int { return m.States[q].Final + total })
}

// checkSlow tells what Push and Pull answered.
func checkSlow(t *testing.T, m api.Machine, by int) (api.Errno, api.Errno) {
	t.Helper()
	want, wantTotal, wantErr := slowPush(m)
	got, total, pushErr := Push(m)
	if pushErr != wantErr || total != wantTotal || !equal(got, want) {
		t.Errorf("%v pushed is %v, %d, %v, want %v, %d, %v", m, got, total, pushErr, want, wantTotal, wantErr)
	}
	want, wantErr = slowPull(m, by)
	got, pullErr := Pull(m, by)
	if pullErr != wantErr || !equal(got, want) {
		t.Errorf("%v pulled by %d is %v, %v, want %v, %v", m, by, got, pullErr, want, wantErr)
	}
	return pushErr, pullErr
}

// P15.1, P15.2, of many machines
func TestManyMachines(t *testing.T) {
	totals := []int{0, 1, 7, most / 2, most - 3, most}
	answers := [2]map[api.Errno]int{{}, {}}
	for seed := range uint64(5000) {
		pushErr, pullErr := checkSlow(t, drawn(seed), totals[seed%6])
		answers[0][pushErr]++
		answers[1][pullErr]++
	}
	for _, n := range answers {
		if n[api.OK] < 2000 || n[api.ErrOver] < 100 {
			t.Errorf("there are too few answers of a kind: %v", answers)
		}
	}
}

// What comes of P15.1: the answer is right, from each state an end can be had for 0, and pushed again it stays as it is, for 0.
func TestEndsForNothing(t *testing.T) {
	states := 0
	for seed := range uint64(3000) {
		m := drawn(seed)
		got, _, err := Push(m)
		if err != api.OK {
			continue
		}
		if err := core.Check(got); err != api.OK {
			t.Errorf("%v pushed is %v: not right: %v", m, got, err)
		}
		ends, err := distance.Ends(got)
		if err != api.OK || !slices.Equal(ends, make([]int, len(got.States))) {
			t.Errorf("%v pushed is %v: its ends are %v, %v", m, got, ends, err)
		}
		checkPush(t, "again", got, got, 0)
		states += len(got.States)
	}
	if states < 3000 {
		t.Errorf("only %d states are left", states)
	}
}

// What comes of P15.1: each pair of words costs the total more than it costs pushed; and as much when that is pulled back.
func TestWordsCostTheTotalMore(t *testing.T) {
	words := [][]int{nil, {1}, {2}, {1, 1}, {1, 2}, {2, 1}, {2, 2}, {1, 2, 1}}
	costly := 0
	for seed := range uint64(1500) {
		m := drawn(seed)
		pushed, total, err := Push(m)
		if err != api.OK {
			continue
		}
		for _, x := range words {
			for _, y := range words {
				want, err := weigh.Weigh(m, x, y)
				if err != api.OK {
					continue
				}
				cost, err := weigh.Weigh(pushed, x, y)
				if err != api.OK || (cost == inf) != (want == inf) || cost != inf && cost+total != want {
					t.Errorf("%v costs %d for %v and %v, pushed %d, %v, the total is %d", m, want, x, y, cost, err, total)
				}
				if total > 0 && want < inf {
					costly++
				}
			}
		}
		checkPulledBack(t, m, pushed, total, words)
	}
	if costly < 1000 {
		t.Errorf("only %d pairs of words cost a total", costly)
	}
}

func checkPulledBack(t *testing.T, m, pushed api.Machine, total int, words [][]int) {
	t.Helper()
	back, err := Pull(pushed, total)
	if err != api.OK {
		// A Final that was dearer than the cheapest way may be too much behind it.
		if err != api.ErrOver || slices.IndexFunc(pushed.States, func(s api.State) bool { return s.Final != inf && s.Final+total > most }) < 0 {
			t.Errorf("%v can't be pulled by %d: %v", pushed, total, err)
		}
		return
	}
	for _, x := range words {
		want, wantErr := weigh.Reads(m, x)
		cost, err := weigh.Reads(back, x)
		if cost != want || err != wantErr {
			t.Errorf("%v costs %d, %v for %v, pulled back %d, %v", m, want, wantErr, x, cost, err)
		}
	}
}

// great: as many states and arcs as may be, each state with arcs to a few others; some end.
func great(unit int) api.Machine {
	m := api.Machine{States: make([]api.State, api.MaxStates)}
	for i := range api.MaxArcs {
		q, step := i%api.MaxStates, i/api.MaxStates
		m.States[q].Arcs = append(m.States[q].Arcs, arc(i%7, i%3, min(most, unit*(i%5)), (q+1+step*step)%api.MaxStates))
	}
	for q := range m.States {
		m.States[q].Final = []int{inf, inf, 9 * q}[q%3]
	}
	return m
}

// Every call ends: great machines, with many cycles, for nothing or not.
func TestGreatMachines(t *testing.T) {
	for _, unit := range []int{0, 1, most / 100, most / 3, most} {
		checkSlow(t, great(unit), unit)
	}
	checkSlow(t, machine(0, state(7, slices.Repeat([]api.Arc{by(1, 0)}, api.MaxArcs)...)), 3)
	checkSlow(t, chain(api.MaxStates, 1, 1), most-1)
	if _, total, err := Push(great(1)); err != api.OK || total == 0 {
		t.Errorf("a great machine is pushed for %d, %v", total, err)
	}
}

// What is handed in stays as it is, the spare room of its lists too, and does not count.
func TestWhatIsHandedInStays(t *testing.T) {
	wrong := api.Arc{In: -1, Out: -1, Weight: -1, To: -1}
	arcs := []api.Arc{arc(2, 1, 3, 1), arc(1, 1, 1, 1), arc(1, 2, 5, 0), wrong, wrong}
	states := []api.State{{Final: inf, Arcs: arcs[:2]}, {Final: 4, Arcs: arcs[1:3]}, {Final: -1, Arcs: arcs[3:]}, {Final: -1}}
	keptArcs, keptStates := slices.Clone(arcs), slices.Clone(states)
	m := api.Machine{States: states[:2]}
	checkPush(t, "with spare room", m, machine(0, state(inf, arc(2, 1, 2, 1), arc(1, 1, 0, 1)), state(0, arc(1, 1, 1, 1), arc(1, 2, 6, 0))), 5)
	checkPull(t, "with spare room", m, 6, machine(0, state(inf, arcs[:2]...), state(10, arcs[1:3]...)))
	checkNoPush(t, "wrong ones", api.Machine{States: states}, api.ErrRange)
	checkNoPull(t, "wrong ones", api.Machine{States: states}, 6, api.ErrRange)
	if !slices.Equal(arcs, keptArcs) || !reflect.DeepEqual(states, keptStates) {
		t.Errorf("the arcs became %v, the states %v", arcs, states)
	}
}

func copied(m api.Machine) api.Machine {
	m.States = slices.Clone(m.States)
	for q := range m.States {
		m.States[q].Arcs = slices.Clone(m.States[q].Arcs)
	}
	return m
}

// fill writes over all that a machine has, the spare room too.
func fill(m api.Machine) {
	for _, s := range m.States {
		arcs := s.Arcs[:cap(s.Arcs)]
		for i := range arcs {
			arcs[i] = api.Arc{In: -7, Out: -7, Weight: -7, To: -7}
		}
	}
	states := m.States[:cap(m.States)]
	for q := range states {
		states[q] = api.State{Final: -7}
	}
}

func checkNew(t *testing.T, what string, m api.Machine, do func(api.Machine) api.Machine) {
	t.Helper()
	kept := copied(m)
	first, second := do(m), do(m)
	want := copied(second)
	fill(first)
	if !equal(m, kept) {
		t.Errorf("%s shares memory with what was handed in: %v", what, m)
	}
	if len(second.States) == 0 || !equal(second, want) {
		t.Errorf("%s shares memory with another answer: %v", what, second)
	}
	for q := range second.States {
		fill(api.Machine{States: second.States[q : q+1 : q+1]})
		for r := q + 1; r < len(second.States); r++ {
			if !slices.Equal(second.States[r].Arcs, want.States[r].Arcs) {
				t.Errorf("%s: states %d and %d share memory", what, q, r)
			}
		}
	}
}

// An answer is new memory: what is written over it is seen nowhere else.
func TestAnswersAreNewMemory(t *testing.T) {
	shared := []api.Arc{arc(2, 1, 3, 1), arc(1, 1, 1, 0), by(1, 2), by(2, 3), arc(3, 3, 3, 0)}
	ours := machine(0, state(0, shared[:2]...), state(1, shared[1:4]...), state(2, shared...), state(3, shared[:0]...))
	plain := machine(0, state(0, by(1, 1)), state(0, by(2, 0), by(3, 1), by(4, 0)))
	for _, m := range []api.Machine{ours, plain, untrimmed(2, by(8, 1), by(6, 4)), great(0), great(1), chain(9, 1, 1)} {
		checkNew(t, "Push", m, func(m api.Machine) api.Machine {
			out, _, _ := Push(m)
			return out
		})
		for _, total := range []int{0, 5} {
			checkNew(t, "Pull", m, func(m api.Machine) api.Machine {
				out, _ := Pull(m, total)
				return out
			})
		}
	}
}

// Nothing is kept from call to call, nor of one that was refused.
func TestNothingIsKept(t *testing.T) {
	m := machine(1, state(4, by(2, 1)), state(inf, arc(1, 2, 3, 0)))
	pushed := machine(1, state(0, by(5, 1)), state(inf, arc(1, 2, 0, 0)))
	pulled := machine(1, state(6, by(2, 1)), state(inf, arc(1, 2, 3, 0)))
	for _, before := range []api.Machine{great(0), great(most), chain(60, most, most), chain(60, 1, 1), {Start: 7}} {
		Push(before)
		checkPush(t, "behind another one", m, pushed, 7)
		Pull(before, most)
		checkPull(t, "behind another one", m, 2, pulled)
	}
}
