package weigh

import (
	"math"
	"reflect"
	"slices"
	"testing"

	"tropica/api"
)

// drawn: a machine of a few states and small numbers, the same one for each seed; some have no Start, some cost much.
func drawn(seed uint64) api.Machine {
	draw := drawer(seed)
	n := draw(5)
	unit := []int{1, 1, 1, most / 10}[draw(4)]
	m := api.Machine{Start: min(draw(4*n+1)-1, n-1), States: make([]api.State, n)}
	for q := range m.States {
		m.States[q].Final = []int{inf, inf, 0, unit * draw(9)}[draw(4)]
		for range draw(5) {
			a := api.Arc{In: draw(3), Out: draw(3), Weight: unit * draw(9), To: draw(n)}
			m.States[q].Arcs = append(m.States[q].Arcs, a)
		}
	}
	return m
}

func drawer(seed uint64) func(most int) int {
	return func(most int) int {
		seed = seed*6364136223846793005 + 1442695040888963407
		return int((seed >> 33) % uint64(most))
	}
}

// words of the labels 1 and 2, up to that many of them.
func words(longest int) [][]int {
	l := [][]int{nil}
	for i := 0; i < len(l); i++ {
		if len(l[i]) < longest {
			l = append(l, append(slices.Clone(l[i]), 1), append(slices.Clone(l[i]), 2))
		}
	}
	return l
}

// slow: what the cheapest path costs, by going from all places along one arc, as often as there are places; the error too.
func slow(m api.Machine, x, y []int, silent bool) (int, api.Errno) {
	const far = math.MaxInt
	type at struct{ q, i, j int }
	costs := map[at]int{}
	if m.Start >= 0 {
		costs[at{q: m.Start}] = 0
	}
	for range len(m.States) * (len(x) + 1) * (len(y) + 1) {
		next := map[at]int{}
		keep := func(p at, c int) {
			if old, ok := next[p]; !ok || c < old {
				next[p] = c
			}
		}
		for p, c := range costs {
			keep(p, c)
			for _, a := range m.States[p.q].Arcs {
				to := at{a.To, p.i, p.j}
				if a.In != 0 {
					to.i++
				}
				if a.Out != 0 && !silent {
					to.j++
				}
				fits := to.i <= len(x) && to.j <= len(y) && (to.i == p.i || x[p.i] == a.In) && (to.j == p.j || y[p.j] == a.Out)
				if fits {
					keep(to, c+a.Weight)
				}
			}
		}
		costs = next
	}
	best := far
	for q, s := range m.States {
		if c, ok := costs[at{q, len(x), len(y)}]; ok && s.Final != inf {
			best = min(best, c+s.Final)
		}
	}
	switch {
	case best == far:
		return inf, api.OK
	case best > most:
		return 0, api.ErrOver
	}
	return best, api.OK
}

// P12.3, P12.4, of many machines
func TestManyMachines(t *testing.T) {
	paths, over := 0, 0
	for seed := range uint64(1500) {
		m, draw := drawn(seed), drawer(seed+7777)
		all := words(3)
		for range 5 {
			x, y := all[draw(len(all))], all[draw(len(all))]
			want, wantErr := slow(m, x, y, false)
			got, err := Weigh(m, x, y)
			if got != want || err != wantErr {
				t.Errorf("Weigh of %v with %v and %v: %d, %v, want %d, %v", m, x, y, got, err, want, wantErr)
			}
			if err == api.ErrOver {
				over++
			} else if got != inf {
				paths++
			}
			want, wantErr = slow(m, x, nil, true)
			if got, err = Reads(m, x); got != want || err != wantErr {
				t.Errorf("Reads of %v with %v: %d, %v, want %d, %v", m, x, got, err, want, wantErr)
			}
		}
	}
	if paths < 200 || over < 20 {
		t.Errorf("only %d pairs of words cost anything, only %d too much", paths, over)
	}
}

// What comes of P12.4: Reads is the least that Weigh tells for that word, whatever is written.
func TestReadsIsTheLeastOfWeigh(t *testing.T) {
	found := 0
	for seed := range uint64(1500) {
		m := drawn(seed)
		for _, x := range words(2) {
			// The cheapest path need not come twice to a state with as much read, so that it writes no more than this.
			longest := max(0, len(m.States)*(len(x)+1)-1)
			if longest > 5 {
				continue
			}
			least, over := inf, false
			for _, y := range words(longest) {
				c, err := Weigh(m, x, y)
				over = over || err == api.ErrOver
				if err == api.OK {
					least = min(least, c)
				}
			}
			want, wantErr := least, api.OK
			if least == inf && over {
				want, wantErr = 0, api.ErrOver
			}
			got, err := Reads(m, x)
			if got != want || err != wantErr {
				t.Errorf("Reads of %v with %v: %d, %v, want %d, %v", m, x, got, err, want, wantErr)
			}
			if got < inf {
				found++
			}
		}
	}
	if found < 200 {
		t.Errorf("only %d words cost anything", found)
	}
}

// P12.2: Cross costs 0 for its two words, and no other ones have a path.
func TestCrossReadsAndWritesItsWordsAlone(t *testing.T) {
	all := words(2)
	for _, x := range all {
		for _, y := range all {
			m, err := Cross(x, y)
			if err != api.OK {
				t.Errorf("Cross of %v and %v: %v", x, y, err)
			}
			for _, a := range all {
				for _, b := range all {
					want := inf
					if slices.Equal(a, x) && slices.Equal(b, y) {
						want = 0
					}
					got, err := Weigh(m, a, b)
					checkCost(t, "Weigh of Cross", got, err, want, api.OK)
				}
			}
		}
	}
	x, y := long(api.MaxWord), word(top)
	m, _ := Cross(x, y)
	got, err := Weigh(m, x, y)
	checkCost(t, "the longest word", got, err, 0, api.OK)
	got, err = Reads(m, x)
	checkCost(t, "the longest word, read", got, err, 0, api.OK)
	got, err = Reads(m, y)
	checkCost(t, "what it writes, read", got, err, inf, api.OK)
}

// great: as many states and arcs as may be, from each state to the next few ones; what is read and written is 0 or this label.
func great(label int) api.Machine {
	m := sized(api.MaxStates, 0)
	for i := range api.MaxArcs {
		q, step := i%api.MaxStates, i/api.MaxStates
		a := api.Arc{In: label * (step % 2), Out: label * (step / 2 % 2), Weight: i % 5, To: (q + 1 + step) % api.MaxStates}
		m.States[q].Arcs = append(m.States[q].Arcs, a)
	}
	m.States[7].Final = 4
	return m
}

// Every call ends: great machines, all of whose arcs are empty, or not all, over the longest words.
func TestGreatMachines(t *testing.T) {
	x := slices.Repeat(word(1), api.MaxWord)
	for _, label := range []int{0, 1} {
		m := great(label)
		want, wantErr := slow(m, x, nil, true)
		got, err := Reads(m, x)
		checkCost(t, "Reads", got, err, want, wantErr)
		want, wantErr = slow(m, x[:2], x[:1], false)
		got, err = Weigh(m, x[:2], x[:1])
		checkCost(t, "Weigh of short words", got, err, want, wantErr)
		got, err = Weigh(m, x, x)
		if err != api.OK || label == 0 && got != inf || label == 1 && got == inf {
			t.Errorf("Weigh with arcs of %d: %d, %v", label, got, err)
		}
	}
}

// What is handed in stays as it is, the spare room of its lists too, and does not count.
func TestWhatIsHandedInStays(t *testing.T) {
	wrong := api.Arc{In: -1, Out: -1, Weight: -1, To: -1}
	arcs := []api.Arc{{In: 1, Out: 2, Weight: 3, To: 1}, {In: 2, To: 1}, {Out: 2, To: 0}, wrong, wrong}
	states := []api.State{{Final: inf, Arcs: arcs[:2]}, {Final: 4, Arcs: arcs[1:3]}, {Final: -1, Arcs: arcs[3:]}, {Final: -1}}
	x, y := word(1, 2, -1, -1), word(2, 0, -1)
	keptArcs, keptStates, keptX, keptY := slices.Clone(arcs), slices.Clone(states), slices.Clone(x), slices.Clone(y)
	m := api.Machine{States: states[:2]}
	got, err := Weigh(m, x[:2], y[:1])
	checkCost(t, "Weigh", got, err, 7, api.OK)
	got, err = Reads(m, x[:2])
	checkCost(t, "Reads", got, err, 7, api.OK)
	made, err := Cross(x[:2], y[:1])
	checkMade(t, "Cross", made, err, machine(0, state(inf, [4]int{1, 2, 0, 1}), state(inf, [4]int{2, 0, 0, 2}), state(0)))
	made, err = Line(x[:1])
	checkMade(t, "Line", made, err, machine(0, state(inf, [4]int{1, 1, 0, 1}), state(0)))
	Weigh(m, x, y)
	Reads(m, x)
	Cross(y, x)
	Line(y)
	if !slices.Equal(arcs, keptArcs) || !reflect.DeepEqual(states, keptStates) {
		t.Errorf("the arcs became %v, the states %v", arcs, states)
	}
	if !slices.Equal(x, keptX) || !slices.Equal(y, keptY) {
		t.Errorf("the words became %v and %v", x, y)
	}
}

// fill writes over all that a machine has, the spare room too.
func fill(m api.Machine) {
	for _, s := range m.States {
		arcs := s.Arcs[:cap(s.Arcs)]
		for i := range arcs {
			arcs[i] = api.Arc{In: -7, Out: -7, Weight: -7, To: -7}
		}
	}
	states := m.States[:cap(m.States)]
	for q := range states {
		states[q] = api.State{Final: -7}
	}
}

// An answer is new memory: what is written over it is seen nowhere else.
func TestAnswersAreNewMemory(t *testing.T) {
	for _, x := range rightWords() {
		first, _ := Cross(x, long(5))
		second, _ := Cross(x, long(5))
		want := copied(second)
		fill(first)
		if !alike(second, want) {
			t.Errorf("shares memory with another answer: %v", second)
		}
		for q := range second.States {
			fill(api.Machine{States: second.States[q : q+1 : q+1]})
			for r := q + 1; r < len(second.States); r++ {
				if !slices.Equal(second.States[r].Arcs, want.States[r].Arcs) {
					t.Errorf("states %d and %d share memory", q, r)
				}
			}
		}
	}
}

// Nothing is kept from call to call, nor of one that was refused.
func TestNothingIsKept(t *testing.T) {
	for _, before := range []api.Machine{sized(60, 400), chain(60, most, most), simple(), {Start: 7}} {
		Weigh(before, word(1), word(2))
		Reads(before, word(1))
		Reads(before, word(0))
		Cross(long(12), long(13))
		got, err := Weigh(simple(), word(1), word(2))
		checkCost(t, "Weigh behind another one", got, err, 3, api.OK)
		got, err = Reads(simple(), nil)
		checkCost(t, "Reads behind another one", got, err, inf, api.OK)
		made, err := Line(nil)
		checkMade(t, "Line behind another one", made, err, machine(0, state(0)))
	}
}
