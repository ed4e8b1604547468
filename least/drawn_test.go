package least

import (
	"reflect"
	"slices"
	"testing"

	"tropica/api"
	"tropica/core"
	"tropica/push"
	"tropica/weigh"
)

func drawer(seed uint64) func(most int) int {
	return func(most int) int {
		seed = seed*6364136223846793005 + 1442695040888963407
		return int((seed >> 33) % uint64(most))
	}
}

// drawnState: its arcs bear labels of which there are few; most often no two of them bear the same, and none is empty.
func drawnState(draw func(int) int, n, unit, labels int) api.State {
	s := state([]int{inf, 0, unit * draw(3)}[draw(3)])
	for range draw(5) {
		a := arc(draw(labels), draw(2), unit*draw(3), draw(n))
		if a.In+a.Out == 0 && draw(40) > 0 {
			a.In = 1
		}
		bearsSame := func(b api.Arc) bool { return a.In == b.In && a.Out == b.Out }
		if !slices.ContainsFunc(s.Arcs, bearsSame) || draw(40) == 0 {
			s.Arcs = append(s.Arcs, a)
		}
	}
	return s
}

// drawn: a machine of some states and few labels and weights, the same one for each seed; some have no Start, an empty arc or twins, some cost much.
func drawn(seed uint64) api.Machine {
	draw := drawer(seed)
	return drawnMachine(draw, []int{0, 1, 1, most / 2}[draw(4)])
}

// drawnMachine: each weight is a few times the unit.
func drawnMachine(draw func(int) int, unit int) api.Machine {
	n, labels := draw(9), 2+draw(2)
	m := api.Machine{Start: min(draw(7*n+1)-1, n-1), States: make([]api.State, n)}
	for q := range m.States {
		m.States[q] = drawnState(draw, n, unit, labels)
	}
	return m
}

// tellApart: which pairs of states are not alike, by what is told otherwise: something differs for them, or for states that the same labels lead to.
func tellApart(m api.Machine) [][]bool {
	apart := make([][]bool, len(m.States))
	for q := range apart {
		apart[q] = make([]bool, len(m.States))
	}
	differs := func(s, r api.State) bool {
		if s.Final != r.Final || len(s.Arcs) != len(r.Arcs) {
			return true
		}
		for _, a := range s.Arcs {
			leadsAlike := func(b api.Arc) bool {
				return a.In == b.In && a.Out == b.Out && a.Weight == b.Weight && !apart[a.To][b.To]
			}
			if !slices.ContainsFunc(r.Arcs, leadsAlike) {
				return true
			}
		}
		return false
	}
	for changed := true; changed; {
		changed = false
		for q, s := range m.States {
			for p, r := range m.States {
				if !apart[q][p] && differs(s, r) {
					apart[q][p], apart[p][q], changed = true, true, true
				}
			}
		}
	}
	return apart
}

// slowRefused: each two arcs of a state are held against each other.
func slowRefused(m api.Machine) api.Errno {
	err := api.OK
	for _, s := range m.States {
		for i, a := range s.Arcs {
			if a.In+a.Out == 0 {
				return api.ErrEmpty
			}
			for _, b := range s.Arcs[:i] {
				if a.In == b.In && a.Out == b.Out {
					err = api.ErrTwin
				}
			}
		}
	}
	return err
}

// slow: what the promise says, word by word.
func slow(m api.Machine) (api.Machine, int, api.Errno) {
	if err := slowRefused(m); err != api.OK {
		return api.Machine{}, 0, err
	}
	m, total, err := push.Push(m)
	if err != api.OK {
		return api.Machine{}, 0, err
	}
	if m.Start < 0 {
		return machine(-1), 0, api.OK
	}
	apart, out, first := tellApart(m), api.Machine{}, []int{m.Start}
	for len(out.States) < len(first) {
		s := m.States[first[len(out.States)]]
		made := state(s.Final)
		for pair := range 9 {
			for _, a := range s.Arcs {
				if a.In != pair/3 || a.Out != pair%3 {
					continue
				}
				n := slices.IndexFunc(first, func(q int) bool { return !apart[q][a.To] })
				if n < 0 {
					n = len(first)
					first = append(first, a.To)
				}
				made.Arcs = append(made.Arcs, arc(a.In, a.Out, a.Weight, n))
			}
		}
		out.States = append(out.States, made)
	}
	return out, total, api.OK
}

// P18.1, of many machines
func TestManyMachines(t *testing.T) {
	answers, fewer := map[api.Errno]int{}, 0
	for seed := range uint64(20000) {
		m := drawn(seed)
		want, wantTotal, wantErr := slow(m)
		got, total, err := Make(m)
		if err != wantErr || total != wantTotal || !equal(got, want) {
			t.Errorf("%v became %v, %d, %v, want %v, %d, %v", m, got, total, err, want, wantTotal, wantErr)
		}
		answers[err]++
		if pushed, _, _ := push.Push(m); err == api.OK && len(got.States) > 1 && len(got.States) < len(pushed.States) {
			fewer++
		}
	}
	for _, err := range []api.Errno{api.OK, api.ErrEmpty, api.ErrTwin, api.ErrOver} {
		if answers[err] < 200 {
			t.Errorf("there are too few answers of a kind: %v", answers)
		}
	}
	if fewer < 300 {
		t.Errorf("only %d machines have fewer states", fewer)
	}
}

// latest: how much of its weight an arc may leave to those behind it, when it is unfolded.
const latest = 2

// unfolded: a machine that costs the same, but for what it costs more, which is told; with so many states, each of which stands for one of m's: its arcs stand in any order, lead to any one that stands for theirs, and leave some of their weights to those behind them. Two more states stand for none: one leads nowhere, one can't be reached.
func unfolded(draw func(int) int, m api.Machine, n int) (api.Machine, int) {
	stands, later := make([]int, n), make([]int, n)
	for q := range n {
		stands[q], later[q] = draw(len(m.States)), draw(latest+1)
		if q < len(m.States) {
			stands[q] = q
		}
	}
	standIn := func(p int) int {
		q := draw(n)
		for stands[q] != p {
			q = draw(n)
		}
		return q
	}
	out := machine(standIn(m.Start))
	for q := range n {
		s := m.States[stands[q]]
		made := state(s.Final)
		if made.Final != inf {
			made.Final += later[q]
		}
		for _, a := range s.Arcs {
			a.To = standIn(a.To)
			a.Weight += later[q] - later[a.To]
			made.Arcs = slices.Insert(made.Arcs, draw(len(made.Arcs)+1), a)
		}
		out.States = append(out.States, made)
	}
	dead := len(out.States)
	out.States = append(out.States, state(inf, by(1, 1, dead)), state(7, by(1, most, out.Start), by(2, most, dead)))
	for q := range n {
		if draw(3) == 0 {
			out.States[q].Arcs = append(out.States[q].Arcs, by(3+draw(3), draw(9), dead))
		}
	}
	return out, later[out.Start]
}

// What comes of it: however a machine is unfolded, it becomes the same one again.
func TestUnfoldedMachines(t *testing.T) {
	folded := 0
	for seed := range uint64(4000) {
		draw := drawer(seed)
		m := drawnMachine(draw, int(seed%2))
		for _, s := range m.States {
			for i := range s.Arcs {
				s.Arcs[i].Weight += latest
			}
		}
		want, total, err := Make(m)
		if err != api.OK || want.Start < 0 {
			continue
		}
		large, later := unfolded(draw, m, len(m.States)+draw(api.MaxStates-1-len(m.States)))
		checkMade(t, "unfolded", large, want, total+later)
		if len(want.States) > 1 {
			folded++
		}
	}
	if folded < 1000 {
		t.Errorf("only %d machines were folded", folded)
	}
}

// P18.1: the answer is right, Certain and Sorted; made small again, it stays as it is, for nothing.
func TestAnswersStay(t *testing.T) {
	states := 0
	for seed := range uint64(5000) {
		m := drawn(seed)
		got, _, err := Make(m)
		if err != api.OK {
			continue
		}
		if like, err := core.Bits(got); err != api.OK || !like.Certain || !like.Sorted {
			t.Errorf("%v became %v: its Bits are %v, %v", m, got, like, err)
		}
		checkMade(t, "again", got, got, 0)
		states += len(got.States)
	}
	if states < 3000 {
		t.Errorf("only %d states were made", states)
	}
}

// What comes of it: each pair of words costs the total more than in the answer.
func TestWordsCostTheTotalMore(t *testing.T) {
	words := [][]int{nil, {1}, {2}, {1, 1}, {1, 2}, {2, 1}, {2, 2}, {1, 2, 1}, {1, 1, 1}}
	costly := 0
	for seed := range uint64(3000) {
		m := drawn(seed)
		got, total, err := Make(m)
		if err != api.OK {
			continue
		}
		for _, x := range words {
			for _, y := range words {
				want, err := weigh.Weigh(m, x, y)
				if err != api.OK {
					continue
				}
				cost, err := weigh.Weigh(got, x, y)
				if err != api.OK || (cost == inf) != (want == inf) || cost != inf && cost+total != want {
					t.Errorf("%v costs %d for %v and %v, made small %d, %v, the total is %d", m, want, x, y, cost, err, total)
				}
				if total > 0 && want < inf {
					costly++
				}
			}
		}
	}
	if costly < 1000 {
		t.Errorf("only %d pairs of words cost a total", costly)
	}
}

// costs of all ways of up to so many pairs of labels from a state to an end, -1 where there is none; in an order that is the same for each state.
func costs(m api.Machine, q, spent, steps int) []int {
	if q < 0 {
		spent = -1
	}
	end := -1
	if q >= 0 && m.States[q].Final != inf {
		end = spent + m.States[q].Final
	}
	list := []int{end}
	if steps == 0 {
		return list
	}
	for pair := 1; pair < 6; pair++ {
		to, cost := -1, spent
		if q >= 0 {
			for _, a := range m.States[q].Arcs {
				if a.In == pair/2 && a.Out == pair%2 {
					to, cost = a.To, spent+a.Weight
				}
			}
		}
		list = append(list, costs(m, to, cost, steps-1)...)
	}
	return list
}

// differByOne: whether one list is the other one with the same number put to each cost. Then one state would do for both, with other weights ahead of it.
func differByOne(a, b []int) bool {
	by, known := 0, false
	for i := range a {
		if a[i] < 0 || b[i] < 0 {
			if a[i] != b[i] {
				return false
			}
			continue
		}
		if known && b[i]-a[i] != by {
			return false
		}
		by, known = b[i]-a[i], true
	}
	return true
}

// What comes of it: no two states of the answer can be one, whatever is put to the weights ahead of them; so none has fewer states.
func TestNoFewerStates(t *testing.T) {
	pairs := 0
	for seed := range uint64(2000) {
		m := drawn(seed)
		got, _, err := Make(m)
		if err != api.OK || len(got.States) > 5 {
			continue
		}
		all := make([][]int, len(got.States))
		for q := range all {
			all[q] = costs(got, q, 0, len(got.States)-1)
		}
		for q := range all {
			for p := range q {
				if pairs++; differByOne(all[q], all[p]) {
					t.Errorf("%v became %v, whose states %d and %d cost the same", m, got, p, q)
				}
			}
		}
	}
	if pairs < 1000 {
		t.Errorf("there were only %d pairs of states", pairs)
	}
}

// great: as many states as may be, and six arcs of each; all that is told of a state is what modulus leaves of its number, where it divides 60.
func great(modulus, unit int) api.Machine {
	m := api.Machine{States: make([]api.State, api.MaxStates)}
	for q := range m.States {
		m.States[q].Final = []int{0, inf}[min(1, q%modulus)]
		for label := 6; label > 0; label-- {
			m.States[q].Arcs = append(m.States[q].Arcs, by(label, unit*(q%modulus), (q*label+1)%api.MaxStates))
		}
	}
	return m
}

// Every call ends: great machines.
func TestGreatMachines(t *testing.T) {
	for _, modulus := range []int{1, 2, 3, 5, 6, 12, 30, 60} {
		for _, unit := range []int{0, 1, most / 10000} {
			m := great(modulus, unit)
			got, total, err := Make(m)
			apart := tellApart(mustPush(t, m))
			kinds := 0
			for q := range apart {
				if !slices.Contains(apart[q][:q], false) {
					kinds++
				}
			}
			if err != api.OK || total != 0 || len(got.States) != kinds || kinds > modulus {
				t.Errorf("modulus %d, unit %d: %d states, %d, %v, want %d", modulus, unit, len(got.States), total, err, kinds)
			}
		}
	}
	if got, _, _ := Make(great(60, 1)); len(got.States) != api.MaxStates {
		t.Errorf("%d states are left of as many as may be that are not alike", len(got.States))
	}
}

func mustPush(t *testing.T, m api.Machine) api.Machine {
	t.Helper()
	pushed, _, err := push.Push(m)
	if err != api.OK {
		t.Fatal(err)
	}
	return pushed
}

func copied(m api.Machine) api.Machine {
	m.States = slices.Clone(m.States)
	for q := range m.States {
		m.States[q].Arcs = slices.Clone(m.States[q].Arcs)
	}
	return m
}

// What is handed in stays as it is, the spare room of its lists too, and does not count.
func TestWhatIsHandedInStays(t *testing.T) {
	wrong := arc(-1, -1, -1, -1)
	arcs := []api.Arc{by(2, 3, 1), by(1, 1, 1), by(3, 5, 0), wrong, wrong}
	states := []api.State{{Final: inf, Arcs: arcs[:2]}, {Final: 4, Arcs: arcs[1:3]}, {Final: -1, Arcs: arcs[3:]}, {Final: -1}}
	keptArcs, keptStates := slices.Clone(arcs), slices.Clone(states)
	checkMade(t, "with spare room", api.Machine{States: states[:2]},
		machine(0, state(inf, by(1, 0, 1), by(2, 2, 1)), state(0, by(1, 1, 1), by(3, 6, 0))), 5)
	checkRefused(t, "wrong ones", api.Machine{States: states}, api.ErrRange)
	if !slices.Equal(arcs, keptArcs) || !reflect.DeepEqual(states, keptStates) {
		t.Errorf("the arcs became %v, the states %v", arcs, states)
	}
}

// fill writes over all that a machine has, the spare room too.
func fill(m api.Machine) {
	for _, s := range m.States {
		arcs := s.Arcs[:cap(s.Arcs)]
		for i := range arcs {
			arcs[i] = arc(-7, -7, -7, -7)
		}
	}
	states := m.States[:cap(m.States)]
	for q := range states {
		states[q] = api.State{Final: -7}
	}
}

// An answer is new memory: what is written over it is seen nowhere else.
func TestAnswersAreNewMemory(t *testing.T) {
	shared := []api.Arc{by(1, 1, 0), by(2, 3, 1), by(3, 3, 2), by(4, 3, 0), by(5, 2, 2)}
	ours := machine(0, state(0, shared[:3]...), state(0, shared[1:4]...), state(0, shared[2:]...))
	small := machine(0, state(0, by(1, 1, 1)), state(0, by(2, 0, 0), by(3, 1, 1)))
	for _, m := range []api.Machine{ours, small, chain(9, 1, 1), great(12, 1), great(60, 1)} {
		kept := copied(m)
		first, _, err := Make(m)
		second, _, _ := Make(m)
		if err != api.OK || len(first.States) < 2 {
			t.Errorf("%v became %v, %v", m, first, err)
		}
		want := copied(second)
		fill(first)
		if !equal(m, kept) {
			t.Errorf("shares memory with what was handed in: %v", m)
		}
		if !equal(second, want) {
			t.Errorf("shares memory with another answer: %v", second)
		}
		for q := range second.States {
			fill(api.Machine{States: second.States[q : q+1 : q+1]})
			for r := q + 1; r < len(second.States); r++ {
				if !slices.Equal(second.States[r].Arcs, want.States[r].Arcs) {
					t.Errorf("states %d and %d share memory", q, r)
				}
			}
		}
	}
}

// Nothing is kept from call to call, nor of one that was refused.
func TestNothingIsKept(t *testing.T) {
	m := machine(0, state(inf, by(1, 2, 1), by(2, 5, 2)), state(4), state(0))
	want := machine(0, state(inf, by(1, 1, 1), by(2, 0, 1)), state(0))
	for _, before := range []api.Machine{great(60, 1), great(1, 0), chain(60, most, most), chain(60, 1, 1), machine(0, state(0, api.Arc{})), machine(-1), {Start: 7}} {
		Make(before)
		checkMade(t, "behind another one", m, want, 5)
	}
}
