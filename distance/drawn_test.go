package distance

import (
	"math"
	"reflect"
	"slices"
	"testing"

	"tropica/api"
	"tropica/reach"
	"tropica/turn"
	"tropica/weigh"
)

// drawn: a machine of a few states and small numbers, the same one for each seed; some have no Start, some cost much.
func drawn(seed uint64) api.Machine {
	draw := drawer(seed)
	n := draw(8)
	unit := []int{1, 1, 1, most / 10}[draw(4)]
	m := api.Machine{Start: min(draw(4*n+1)-1, n-1), States: make([]api.State, n)}
	for q := range m.States {
		m.States[q].Final = []int{inf, inf, 0, unit * draw(9)}[draw(4)]
		for range draw(5) {
			a := api.Arc{In: draw(3), Out: draw(3), Weight: unit * draw(9), To: draw(n)}
			m.States[q].Arcs = append(m.States[q].Arcs, a)
		}
	}
	return m
}

func drawer(seed uint64) func(most int) int {
	return func(most int) int {
		seed = seed*6364136223846793005 + 1442695040888963407
		return int((seed >> 33) % uint64(most))
	}
}

const far = math.MaxInt / 4

// between: the least that arcs cost from each state to each, by going through one more state each time; far: none.
func between(m api.Machine) [][]int {
	n := len(m.States)
	d := make([][]int, n)
	for q := range d {
		d[q] = slices.Repeat([]int{far}, n)
		d[q][q] = 0
		for _, a := range m.States[q].Arcs {
			d[q][a.To] = min(d[q][a.To], a.Weight)
		}
	}
	for k := range n {
		for i := range n {
			for j := range n {
				d[i][j] = min(d[i][j], d[i][k]+d[k][j])
			}
		}
	}
	return d
}

// told: what is to be told for these costs.
func told(costs []int) ([]int, api.Errno) {
	var list []int
	for _, c := range costs {
		switch {
		case c >= far:
			list = append(list, inf)
		case c > most:
			return nil, api.ErrOver
		default:
			list = append(list, c)
		}
	}
	return list, api.OK
}

func slowFrom(m api.Machine) ([]int, api.Errno) {
	if m.Start < 0 {
		return told(slices.Repeat([]int{far}, len(m.States)))
	}
	return told(between(m)[m.Start])
}

func slowEnds(m api.Machine) ([]int, api.Errno) {
	costs := slices.Repeat([]int{far}, len(m.States))
	for q, row := range between(m) {
		for r, s := range m.States {
			if s.Final != inf {
				costs[q] = min(costs[q], row[r]+s.Final)
			}
		}
	}
	return told(costs)
}

func checkSlow(t *testing.T, m api.Machine) {
	t.Helper()
	want, wantErr := slowFrom(m)
	got, err := From(m)
	if err != wantErr || !slices.Equal(got, want) {
		t.Errorf("From of %v: %v, %v, want %v, %v", m, got, err, want, wantErr)
	}
	want, wantErr = slowEnds(m)
	got, err = Ends(m)
	if err != wantErr || !slices.Equal(got, want) {
		t.Errorf("Ends of %v: %v, %v, want %v, %v", m, got, err, want, wantErr)
	}
	cost := inf
	if m.Start >= 0 && wantErr == api.OK {
		cost = want[m.Start]
	}
	if wantErr != api.OK {
		cost = 0
	}
	least, err := Least(m)
	checkCost(t, "Least", least, err, cost, wantErr)
}

// P13.1, P13.2, P13.3, of many machines
func TestManyMachines(t *testing.T) {
	over, reached := [2]int{}, [2]int{}
	for seed := range uint64(4000) {
		m := drawn(seed)
		checkSlow(t, m)
		for i, far := range []func(api.Machine) ([]int, api.Errno){From, Ends} {
			list, err := far(m)
			if err == api.ErrOver {
				over[i]++
			}
			for _, c := range list {
				if c > 0 && c != inf {
					reached[i]++
				}
			}
		}
	}
	if min(over[0], over[1]) < 50 || min(reached[0], reached[1]) < 2000 {
		t.Errorf("only %v of the answers are too much, only %v states are reached", over, reached)
	}
}

// What comes of P13.1, P13.2: a state is Inf just where chapter 6 says that it can't be reached, or can't end.
func TestInfIsNotReached(t *testing.T) {
	for seed := range uint64(2000) {
		m := drawn(seed)
		ahead, _ := reach.Ahead(m)
		if from, err := From(m); err == api.OK {
			checkInf(t, "From", m, from, ahead)
		}
		back, _ := reach.Back(m)
		if ends, err := Ends(m); err == api.OK {
			checkInf(t, "Ends", m, ends, back)
		}
	}
}

func checkInf(t *testing.T, what string, m api.Machine, costs []int, found []bool) {
	t.Helper()
	if len(costs) != len(m.States) {
		t.Errorf("%s of %v: %v", what, m, costs)
	}
	for q, c := range costs {
		if found[q] != (c != inf) || c < 0 || c > inf {
			t.Errorf("%s of %v: %v, found %v", what, m, costs, found)
		}
	}
}

// What comes of P13.3: no word costs less than Least; of machines whose arcs are all empty, the empty word costs just that.
func TestLeastOfWords(t *testing.T) {
	found := 0
	for seed := range uint64(1500) {
		m := drawn(seed)
		least, err := Least(m)
		if err != api.OK {
			continue
		}
		for _, x := range [][]int{nil, {1}, {2}, {1, 2}} {
			if c, err := weigh.Reads(m, x); err == api.OK && c < least {
				t.Errorf("%v costs %d for %v, Least is %d", m, c, x, least)
			}
		}
		for _, s := range m.States {
			for i := range s.Arcs {
				s.Arcs[i].In, s.Arcs[i].Out = 0, 0
			}
		}
		c, err := weigh.Weigh(m, nil, nil)
		checkCost(t, "the empty word", c, err, least, api.OK)
		if c != inf {
			found++
		}
	}
	if found < 200 {
		t.Errorf("only %d machines have a path", found)
	}
}

// What comes of P13.3: from behind, the cheapest path costs the same; the other way round, all costs stay.
func TestLeastOfTurned(t *testing.T) {
	for seed := range uint64(1500) {
		m := drawn(seed)
		inverted, _ := turn.Invert(m)
		want, wantErr := Ends(m)
		got, err := Ends(inverted)
		if err != wantErr || !slices.Equal(got, want) {
			t.Errorf("Ends of %v: %v, %v, of the inverted one %v, %v", m, want, wantErr, got, err)
		}
		reversed, err := turn.Reverse(m)
		if err != api.OK {
			continue
		}
		a, errA := Least(m)
		b, errB := Least(reversed)
		if errA == api.OK && errB == api.OK && a != b {
			t.Errorf("Least of %v: %d, from behind %d", m, a, b)
		}
	}
}

// Every call ends: great machines, with many cycles, for nothing or not.
func TestGreatMachines(t *testing.T) {
	for _, unit := range []int{0, 1, most / 40, most} {
		m := sized(api.MaxStates, 0)
		for i := range api.MaxArcs {
			q, step := i%api.MaxStates, i/api.MaxStates
			a := api.Arc{In: i % 2, Weight: unit * (i % 5), To: (q + 1 + step*step) % api.MaxStates}
			if a.Weight > most {
				a.Weight = most
			}
			m.States[q].Arcs = append(m.States[q].Arcs, a)
		}
		m.States[7].Final = 4
		checkSlow(t, m)
	}
	checkSlow(t, sized(api.MaxStates, api.MaxArcs))
	checkSlow(t, sized(1, api.MaxArcs))
	checkSlow(t, chain(api.MaxStates, most/(api.MaxStates-1), most%(api.MaxStates-1)))
	checkSlow(t, chain(api.MaxStates, most/(api.MaxStates-1), most%(api.MaxStates-1)+1))
}

// What is handed in stays as it is, the spare room of its lists too, and does not count.
func TestWhatIsHandedInStays(t *testing.T) {
	wrong := api.Arc{In: -1, Out: -1, Weight: -1, To: -1}
	arcs := []api.Arc{{In: 1, Weight: 3, To: 1}, {In: 2, Weight: 1, To: 1}, {Out: 2, Weight: 5, To: 0}, wrong, wrong}
	states := []api.State{{Final: inf, Arcs: arcs[:2]}, {Final: 4, Arcs: arcs[1:3]}, {Final: -1, Arcs: arcs[3:]}, {Final: -1}}
	keptArcs, keptStates := slices.Clone(arcs), slices.Clone(states)
	m := api.Machine{States: states[:2]}
	from, err := From(m)
	checkList(t, "From", from, err, 0, 1)
	ends, err := Ends(m)
	checkList(t, "Ends", ends, err, 5, 4)
	least, err := Least(m)
	checkCost(t, "Least", least, err, 5, api.OK)
	if !slices.Equal(arcs, keptArcs) || !reflect.DeepEqual(states, keptStates) {
		t.Errorf("the arcs became %v, the states %v", arcs, states)
	}
}

// An answer is new memory: what is written over it is seen nowhere else, and nothing is kept, nor of what was refused.
func TestAnswersAreNewMemory(t *testing.T) {
	for _, before := range []api.Machine{example(), chain(60, most, most), sized(60, 400), {Start: 7}} {
		for _, far := range []func(api.Machine) ([]int, api.Errno){From, Ends} {
			far(before)
			Least(before)
			first, _ := far(example())
			second, _ := far(example())
			want := slices.Clone(second)
			first = first[:cap(first)]
			for i := range first {
				first[i] = -7
			}
			third, err := far(example())
			checkList(t, "another answer", second, err, want...)
			checkList(t, "a later answer", third, err, want...)
		}
		least, err := Least(example())
		checkCost(t, "Least behind another one", least, err, 9, api.OK)
	}
}
