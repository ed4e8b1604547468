package same

import (
	"reflect"
	"slices"
	"testing"

	"tropica/api"
	"tropica/certain"
	"tropica/core"
	"tropica/empties"
	"tropica/least"
	"tropica/weigh"
)

func drawer(seed uint64) func(most int) int {
	return func(most int) int {
		seed = seed*6364136223846793005 + 1442695040888963407
		return int((seed >> 33) % uint64(most))
	}
}

// drawnMachine: each weight is a few times the unit; labels are 0 and 1.
func drawnMachine(draw func(int) int, n, unit int) api.Machine {
	m := api.Machine{Start: min(draw(7*n+1)-1, n-1), States: make([]api.State, n)}
	for q := range m.States {
		s := state([]int{inf, 0, unit * draw(3)}[draw(3)])
		for range draw(4) {
			s.Arcs = append(s.Arcs, arc(draw(2), draw(2), unit*draw(3), draw(n)))
		}
		m.States[q] = s
	}
	return m
}

// drawn: the same one for each seed; some have no Start, some cost much.
func drawn(seed uint64) api.Machine {
	draw := drawer(seed)
	return drawnMachine(draw, draw(7), []int{0, 1, 1, most / 2}[draw(4)])
}

// P19.1: the three steps, one behind the other, of many machines; the answer is right, Certain and Sorted, and stays as it is.
func TestManyNormals(t *testing.T) {
	answers := map[api.Errno]int{}
	for seed := range uint64(10000) {
		m := drawn(seed)
		got, total, err := Normal(m)
		answers[err]++
		full, wantErr := empties.Remove(m)
		if wantErr == api.OK {
			full, wantErr = certain.Make(full)
		}
		want, wantTotal := api.Machine{}, 0
		if wantErr == api.OK {
			want, wantTotal, wantErr = least.Make(full)
		}
		if err != wantErr || total != wantTotal || !alike(got, want) {
			t.Errorf("%v became %v, %d, %v, want %v, %d, %v", m, got, total, err, want, wantTotal, wantErr)
		}
		if err != api.OK {
			continue
		}
		if like, err := core.Bits(got); err != api.OK || !like.Certain || !like.Sorted {
			t.Errorf("%v became %v: its Bits are %v, %v", m, got, like, err)
		}
		checkNormal(t, "again", got, got, 0)
	}
	for _, err := range []api.Errno{api.OK, api.ErrOver, api.ErrFull} {
		if answers[err] < 100 {
			t.Errorf("there are too few answers of a kind: %v", answers)
		}
	}
}

// P19.2, of many pairs of machines.
func TestManyPairs(t *testing.T) {
	type answer struct {
		same bool
		err  api.Errno
	}
	answers := map[answer]int{}
	for seed := range uint64(10000) {
		draw := drawer(seed)
		unit := []int{0, 0, 1, most / 2}[draw(4)]
		a, b := drawnMachine(draw, draw(4), unit), drawnMachine(draw, draw(4), unit)
		x, n, err := Normal(a)
		y, k, errB := Normal(b)
		if err == api.OK {
			err = errB
		}
		want := answer{err == api.OK && n == k && alike(x, y), err}
		if got, err := Same(a, b); (answer{got, err}) != want {
			t.Errorf("%v and %v: %v, %v, want %v", a, b, got, err, want)
		}
		answers[want]++
	}
	for _, want := range []answer{{true, api.OK}, {false, api.OK}, {false, api.ErrOver}, {false, api.ErrFull}} {
		if answers[want] < 50 {
			t.Errorf("there are too few answers of a kind: %v", answers)
		}
	}
}

// rewritten: a machine that costs the same: its states stand in another order, beside some that lead nowhere or can't be reached; arcs stand in another order, some have a heavier twin, some a state of their own ahead of where they lead, some parts of weights are left to those behind.
func rewritten(draw func(int) int, m api.Machine) api.Machine {
	n := len(m.States)
	place := drawnOrder(draw, n)
	out := machine(-1, make([]api.State, n)...)
	if m.Start >= 0 {
		out.Start = place[m.Start]
	}
	for q, s := range m.States {
		made := state(s.Final)
		for _, a := range s.Arcs {
			a.To = place[a.To]
			if draw(4) == 0 {
				made.Arcs = append(made.Arcs, arc(a.In, a.Out, a.Weight+draw(3), a.To))
			}
			if draw(4) == 0 {
				later := draw(a.Weight + 1)
				out.States = append(out.States, state(inf, hop(later, a.To)))
				a.Weight, a.To = a.Weight-later, len(out.States)-1
			}
			made.Arcs = slices.Insert(made.Arcs, draw(len(made.Arcs)+1), a)
		}
		if draw(3) == 0 {
			made.Arcs = append(made.Arcs, hop(draw(3), place[q]))
		}
		out.States[place[q]] = made
	}
	return besideOthers(draw, out)
}

// besideOthers: two more states, one that leads nowhere, one that can't be reached.
func besideOthers(draw func(int) int, m api.Machine) api.Machine {
	dead := len(m.States)
	for q := range m.States {
		if draw(3) == 0 {
			m.States[q].Arcs = append(m.States[q].Arcs, by(draw(3), draw(9), dead))
		}
	}
	m.States = append(m.States, state(inf), state(7, by(1, 4, draw(dead+1)), hop(1, draw(dead+1))))
	return m
}

func drawnOrder(draw func(int) int, n int) []int {
	var l []int
	for q := range n {
		l = slices.Insert(l, draw(q+1), q)
	}
	return l
}

// P19.2: however a machine is rewritten, it is the same; for one more to pay in each end it is not.
func TestRewrittenMachines(t *testing.T) {
	pairs := 0
	for seed := range uint64(4000) {
		draw := drawer(seed)
		m := drawnMachine(draw, draw(6), 1)
		other := rewritten(draw, m)
		if _, _, err := Normal(m); err != api.OK {
			continue
		}
		normal, _, err := Normal(other)
		if err == api.ErrFull { // what leads nowhere counts among sets, too
			continue
		}
		checkSame(t, "rewritten", m, other, true)
		for q, s := range other.States {
			if s.Final != inf {
				other.States[q].Final++
			}
		}
		checkSame(t, "one more to pay", m, other, normal.Start < 0)
		if len(normal.States) > 1 {
			pairs++
		}
	}
	if pairs < 1000 {
		t.Errorf("only %d machines have more than one state", pairs)
	}
}

// far: what none of these costs reaches.
const far = 1 << 60

// settled: what it costs at least to be in each state, also by empty arcs.
func settled(m api.Machine, costs []int) []int {
	for range m.States {
		for q, s := range m.States {
			for _, a := range s.Arcs {
				if a.In+a.Out == 0 && costs[q] < far {
					costs[a.To] = min(costs[a.To], costs[q]+a.Weight)
				}
			}
		}
	}
	return costs
}

// step: what it costs at least to be in each state behind one more pair of labels.
func step(m api.Machine, costs []int, in, out int) []int {
	next := slices.Repeat([]int{far}, len(m.States))
	for q, s := range m.States {
		for _, a := range s.Arcs {
			if a.In == in && a.Out == out && costs[q] < far {
				next[a.To] = min(next[a.To], costs[q]+a.Weight)
			}
		}
	}
	return settled(m, next)
}

func begun(m api.Machine) []int {
	costs := slices.Repeat([]int{far}, len(m.States))
	if m.Start >= 0 {
		costs[m.Start] = 0
	}
	return settled(m, costs)
}

func ended(m api.Machine, costs []int) int {
	least := far
	for q, s := range m.States {
		if s.Final != inf && costs[q] < far {
			least = min(least, costs[q]+s.Final)
		}
	}
	return least
}

// costSame: whether all rows of up to so many pairs of labels cost the same in both, told by nothing but their arcs.
func costSame(a, b api.Machine, x, y []int, steps int) bool {
	if ended(a, x) != ended(b, y) {
		return false
	}
	if steps == 0 {
		return true
	}
	for pair := 1; pair < 4; pair++ {
		if !costSame(a, b, step(a, x, pair/2, pair%2), step(b, y, pair/2, pair%2), steps-1) {
			return false
		}
	}
	return true
}

// The face's words: Same holds just where all rows of pairs of labels cost the same.
func TestRowsOfLabels(t *testing.T) {
	alike, others := 0, 0
	for seed := range uint64(6000) {
		draw := drawer(seed)
		unit := draw(2)
		a, b := drawnMachine(draw, 1+draw(2), unit), drawnMachine(draw, 1+draw(2), unit)
		got, err := Same(a, b)
		if err != api.OK {
			continue
		}
		if want := costSame(a, b, begun(a), begun(b), 6); got != want {
			t.Errorf("%v and %v: %v, want %v", a, b, got, want)
		}
		if got && len(a.States[0].Arcs) > 0 && len(b.States[0].Arcs) > 0 {
			alike++
		} else {
			others++
		}
	}
	if alike < 200 || others < 1000 {
		t.Errorf("%d pairs are the same, %d are others", alike, others)
	}
}

// What comes of it: where Same holds, each pair of words costs the same in both.
func TestWordsCostTheSame(t *testing.T) {
	words := [][]int{nil, {1}, {1, 1}, {1, 1, 1}}
	paid := 0
	for seed := range uint64(6000) {
		draw := drawer(seed)
		unit := draw(2)
		a, b := drawnMachine(draw, 1+draw(3), unit), drawnMachine(draw, 1+draw(3), unit)
		if draw(2) == 0 {
			b = rewritten(draw, a)
		}
		if same, _ := Same(a, b); !same {
			continue
		}
		for _, x := range words {
			for _, y := range words {
				n, err := weigh.Weigh(a, x, y)
				k, errB := weigh.Weigh(b, x, y)
				if err != api.OK || errB != api.OK || n != k {
					t.Errorf("%v and %v are the same, and cost %d, %v and %d, %v for %v and %v", a, b, n, err, k, errB, x, y)
				}
				if n > 0 && n < inf {
					paid++
				}
			}
		}
	}
	if paid < 1000 {
		t.Errorf("only %d pairs of words cost something", paid)
	}
}

// great: as many states as may be, and six arcs of each.
func great(modulus int) api.Machine {
	m := api.Machine{States: make([]api.State, api.MaxStates)}
	for q := range m.States {
		m.States[q].Final = []int{0, inf}[min(1, q%modulus)]
		for label := 6; label > 0; label-- {
			m.States[q].Arcs = append(m.States[q].Arcs, by(label, q%modulus, (q*label+1)%api.MaxStates))
		}
	}
	return m
}

// Every call ends: great machines.
func TestGreatMachines(t *testing.T) {
	checkSame(t, "great ones", great(60), great(60), true)
	checkSame(t, "great ones, the same in the end", great(1), machine(0, state(0, by(1, 0, 0), by(2, 0, 0), by(3, 0, 0), by(4, 0, 0), by(5, 0, 0), by(6, 0, 0))), true)
	checkSame(t, "great ones that are not", great(60), great(30), false)
	thick := great(60)
	for q := range thick.States {
		for i := range thick.States[q].Arcs {
			thick.States[q].Arcs[i] = by(1, i*q, (q*7+i*i)%api.MaxStates)
		}
	}
	empty := great(60)
	for q := range empty.States {
		for i := range empty.States[q].Arcs {
			empty.States[q].Arcs[i].In, empty.States[q].Arcs[i].Out = 0, 0
		}
	}
	checkNormal(t, "great, all empty", empty, machine(0, state(0)), 0)
	for _, a := range []api.Machine{thick, empty, great(60), great(7)} {
		for _, b := range []api.Machine{thick, empty, great(60), great(7)} {
			Same(a, b)
		}
	}
}

func copied(m api.Machine) api.Machine {
	m.States = slices.Clone(m.States)
	for q := range m.States {
		m.States[q].Arcs = slices.Clone(m.States[q].Arcs)
	}
	return m
}

// What is handed in stays as it is, the spare room of its lists too, and does not count.
func TestWhatIsHandedInStays(t *testing.T) {
	wrong := arc(-1, -1, -1, -1)
	arcs := []api.Arc{by(2, 3, 1), by(1, 1, 1), by(3, 5, 0), wrong, wrong}
	states := []api.State{{Final: inf, Arcs: arcs[:2]}, {Final: 4, Arcs: arcs[1:3]}, {Final: -1, Arcs: arcs[3:]}, {Final: -1}}
	keptArcs, keptStates := slices.Clone(arcs), slices.Clone(states)
	m := api.Machine{States: states[:2]}
	checkNormal(t, "with spare room", m, machine(0, state(inf, by(1, 0, 1), by(2, 2, 1)), state(0, by(1, 1, 1), by(3, 6, 0))), 5)
	checkSame(t, "with spare room", m, copied(m), true)
	checkSame(t, "with itself", m, m, true)
	checkRefused(t, "wrong ones", api.Machine{States: states}, api.ErrRange)
	if !slices.Equal(arcs, keptArcs) || !reflect.DeepEqual(states, keptStates) {
		t.Errorf("the arcs became %v, the states %v", arcs, states)
	}
}

// fill writes over all that a machine has, the spare room too.
func fill(m api.Machine) {
	for _, s := range m.States {
		arcs := s.Arcs[:cap(s.Arcs)]
		for i := range arcs {
			arcs[i] = arc(-7, -7, -7, -7)
		}
	}
	states := m.States[:cap(m.States)]
	for q := range states {
		states[q] = api.State{Final: -7}
	}
}

// An answer is new memory: what is written over it is seen nowhere else.
func TestAnswersAreNewMemory(t *testing.T) {
	small := machine(0, state(0, by(1, 1, 1)), state(0, by(2, 0, 0), by(3, 1, 1)))
	for _, m := range []api.Machine{small, plain, great(12), great(60)} {
		kept := copied(m)
		first, _, err := Normal(m)
		second, _, _ := Normal(m)
		if err != api.OK || len(first.States) < 2 {
			t.Errorf("%v became %v, %v", m, first, err)
		}
		want := copied(second)
		fill(first)
		if !alike(m, kept) || !alike(second, want) {
			t.Errorf("an answer shares memory: %v, %v", m, second)
		}
		for q := range second.States {
			fill(api.Machine{States: second.States[q : q+1 : q+1]})
			for r := q + 1; r < len(second.States); r++ {
				if !slices.Equal(second.States[r].Arcs, want.States[r].Arcs) {
					t.Errorf("states %d and %d share memory", q, r)
				}
			}
		}
	}
}

// Nothing is kept from call to call, nor of one that was refused.
func TestNothingIsKept(t *testing.T) {
	m := machine(0, state(inf, by(1, 2, 1), by(2, 5, 2)), state(4), state(0))
	want := machine(0, state(inf, by(1, 1, 1), by(2, 0, 1)), state(0))
	for _, before := range []api.Machine{great(60), removeFull(), makeFull(), removeOver, makeOver, pushOver, machine(-1), {Start: 7}} {
		Normal(before)
		checkNormal(t, "behind another one", m, want, 5)
		Same(before, m)
		checkSame(t, "behind another one", m, want, false)
		checkSame(t, "behind another one, with itself", m, m, true)
	}
}
