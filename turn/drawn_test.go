package turn

import (
	"reflect"
	"slices"
	"testing"

	"tropica/api"
	"tropica/core"
)

// drawn: a machine of a few states and small numbers, the same one for each seed; some have no Start.
func drawn(seed uint64) api.Machine {
	draw := drawer(seed)
	n := draw(5)
	m := api.Machine{Start: min(draw(4*n+1)-1, n-1), States: make([]api.State, n)}
	for q := range m.States {
		m.States[q].Final = []int{inf, inf, 0, draw(9)}[draw(4)]
		for range draw(4) {
			a := api.Arc{In: draw(3), Out: draw(3), Weight: draw(9), To: draw(n)}
			m.States[q].Arcs = append(m.States[q].Arcs, a)
		}
	}
	return m
}

func drawer(seed uint64) func(most int) int {
	return func(most int) int {
		seed = seed*6364136223846793005 + 1442695040888963407
		return int((seed >> 33) % uint64(most))
	}
}

// Words that are asked for: what is read, and what is written.
type words struct {
	in, out []int
}

// cost of the cheapest path for two words, or inf; each place is reached along fewer arcs than there are places.
func cost(m api.Machine, w words) int {
	if m.Start < 0 {
		return inf
	}
	type place struct{ state, in, out int }
	costs := map[place]int{{state: m.Start}: 0}
	for range len(m.States) * (len(w.in) + 1) * (len(w.out) + 1) {
		next := map[place]int{}
		for p, c := range costs {
			least(next, p, c)
			for _, a := range m.States[p.state].Arcs {
				to := place{a.To, along(w.in, p.in, a.In), along(w.out, p.out, a.Out)}
				if to.in >= 0 && to.out >= 0 {
					least(next, to, c+a.Weight)
				}
			}
		}
		costs = next
	}
	best := inf
	for q, s := range m.States {
		if c, ok := costs[place{q, len(w.in), len(w.out)}]; ok && s.Final != inf {
			best = min(best, c+s.Final)
		}
	}
	return best
}

func least[K comparable](costs map[K]int, k K, c int) {
	if old, ok := costs[k]; !ok || c < old {
		costs[k] = c
	}
}

// along: the place in a word behind a label, or -1 if it does not stand there.
func along(word []int, at, label int) int {
	switch {
	case label == api.Empty:
		return at
	case at < len(word) && word[at] == label:
		return at + 1
	}
	return -1
}

func fromBehind(word []int) []int {
	word = slices.Clone(word)
	slices.Reverse(word)
	return word
}

// What comes of P11.1 and P11.4: what words cost.
func TestWhatWordsCost(t *testing.T) {
	pairs := []words{{}, {in: []int{1}}, {out: []int{2}}, {[]int{1}, []int{2}}, {[]int{1, 2}, []int{1}},
		{[]int{2, 1}, []int{2, 2}}, {[]int{1, 1, 2}, []int{2, 1}}, {[]int{2, 1, 1}, []int{1, 2}}}
	found := 0
	for seed := range uint64(400) {
		m := drawn(seed)
		inverted, _ := Invert(m)
		reversed, _ := Reverse(m)
		for _, w := range pairs {
			want := cost(m, w)
			if got := cost(inverted, words{w.out, w.in}); got != want {
				t.Errorf("%v the other way round costs %d for %v, want %d", m, got, w, want)
			}
			if got := cost(reversed, words{fromBehind(w.in), fromBehind(w.out)}); got != want {
				t.Errorf("%v from behind costs %d for %v, want %d", m, got, w, want)
			}
			if want < inf {
				found++
			}
		}
	}
	if found < 200 {
		t.Errorf("only %d pairs of words cost anything", found)
	}
}

// The chapter's example: the reverse of a machine that reads 1 and then 2 reads 2 and then 1.
func TestReversedWords(t *testing.T) {
	m := machine(0, state(inf, [4]int{1, 1, 4, 1}), state(inf, [4]int{2, 2, 5, 2}), state(6))
	r, err := Reverse(m)
	there, back := words{[]int{1, 2}, []int{1, 2}}, words{[]int{2, 1}, []int{2, 1}}
	if err != api.OK || cost(r, back) != 15 || cost(r, there) != inf {
		t.Errorf("%v, %v costs %d for 2 and 1, %d for 1 and 2", r, err, cost(r, back), cost(r, there))
	}
}

// each: the machine with something done to each arc, for tests alone.
func each(m api.Machine, do func(a *api.Arc)) api.Machine {
	m = copied(m)
	for _, s := range m.States {
		for i := range s.Arcs {
			do(&s.Arcs[i])
		}
	}
	return m
}

// into: the arcs that lead to a state, from behind, as P11.4 orders them.
func into(m api.Machine, p int) []api.Arc {
	var l []api.Arc
	for q, s := range m.States {
		for _, a := range s.Arcs {
			if a.To == p {
				l = append(l, api.Arc{In: a.In, Out: a.Out, Weight: a.Weight, To: 1 + q})
			}
		}
	}
	return l
}

func wantReversed(m api.Machine) api.Machine {
	want := machine(0, state(inf))
	for q, s := range m.States {
		if s.Final != inf {
			want.States[0].Arcs = append(want.States[0].Arcs, api.Arc{Weight: s.Final, To: 1 + q})
		}
		final := inf
		if q == m.Start {
			final = 0
		}
		want.States = append(want.States, api.State{Final: final, Arcs: into(m, q)})
	}
	return want
}

// relabelled: the first change whose From it is counts, and no other one.
func relabelled(label int, l []api.Change) int {
	for _, c := range l {
		if c.From == label {
			return c.To
		}
	}
	return label
}

// P11.1 to P11.5, of many machines
func TestManyMachines(t *testing.T) {
	for seed := range uint64(3000) {
		m, draw := drawn(seed), drawer(seed+7777)
		got, err := Invert(m)
		checkTurned(t, "Invert", got, err, each(m, func(a *api.Arc) { a.In, a.Out = a.Out, a.In }))
		got, err = Reads(m)
		checkTurned(t, "Reads", got, err, each(m, func(a *api.Arc) { a.Out = a.In }))
		got, err = Writes(m)
		checkTurned(t, "Writes", got, err, each(m, func(a *api.Arc) { a.In = a.Out }))
		got, err = Reverse(m)
		checkTurned(t, "Reverse", got, err, wantReversed(m))
		ins, outs := changed(1, draw(4), 2, draw(4))[:draw(3)], changed(2, draw(4), 1, draw(4))[:draw(3)]
		got, err = Relabel(m, ins, outs)
		checkTurned(t, "Relabel", got, err, each(m, func(a *api.Arc) {
			a.In, a.Out = relabelled(a.In, ins), relabelled(a.Out, outs)
		}))
	}
}

// What is handed in stays as it is, the spare room of its lists too, and does not count.
func TestMachinesStayAsTheyAre(t *testing.T) {
	wrong := api.Arc{In: -1, Out: -1, Weight: -1, To: -1}
	arcs := []api.Arc{{In: 1, To: 0}, {In: 2, To: 1}, {In: 3, To: 0}, wrong, wrong, wrong}
	keptArcs := slices.Clone(arcs)
	states := []api.State{{Final: 3, Arcs: arcs[:2]}, {Final: 4, Arcs: arcs[1:3]}, {Final: -1, Arcs: arcs[3:]}, {Final: -1}, {Final: -1}}
	keptStates := slices.Clone(states)
	m := api.Machine{States: states[:2]}
	for _, f := range calls() {
		if got, err := f.does(m); err != api.OK || core.Check(got) != api.OK {
			t.Errorf("%s looks into the spare room: %v, %v", f.name, got, err)
		}
		if !slices.Equal(arcs, keptArcs) || !reflect.DeepEqual(states, keptStates) {
			t.Errorf("%s: the arcs became %v, the states %v", f.name, arcs, states)
		}
	}
}

// P11.5: the lists of changes stay as they are, too.
func TestChangesStayAsTheyAre(t *testing.T) {
	ins, outs := changed(3, 1, 1, 2, 1, -1, -1, -1), changed(2, 0, 1, 4, 2, -1)
	keptIns, keptOuts := slices.Clone(ins), slices.Clone(outs)
	got, err := Relabel(simple(), ins[:2], outs[:2])
	checkTurned(t, "changes with spare room", got, err, machine(0, state(inf, [4]int{2, 0, 3, 1}), state(0)))
	if !slices.Equal(ins, keptIns) || !slices.Equal(outs, keptOuts) {
		t.Errorf("the changes became %v and %v", ins, outs)
	}
	got, err = Relabel(simple(), ins, outs)
	checkRefused(t, "changes that are wrong", got, err, api.ErrRange)
	if !slices.Equal(ins, keptIns) || !slices.Equal(outs, keptOuts) {
		t.Errorf("refused: the changes became %v and %v", ins, outs)
	}
	list := changed(1, 2, 2, 1)
	got, err = Relabel(simple(), list, list)
	checkTurned(t, "one list for both", got, err, machine(0, state(inf, [4]int{2, 1, 3, 1}), state(0)))
}

// fill writes over all that a machine has, the spare room too.
func fill(m api.Machine) {
	for _, s := range m.States {
		arcs := s.Arcs[:cap(s.Arcs)]
		for i := range arcs {
			arcs[i] = api.Arc{In: -7, Out: -7, Weight: -7, To: -7}
		}
	}
	states := m.States[:cap(m.States)]
	for q := range states {
		states[q] = api.State{Final: -7}
	}
}

// An answer is new memory: what is written over it is seen nowhere else.
func TestAnswersAreNewMemory(t *testing.T) {
	for _, m := range []api.Machine{simple(), mixed(), ending(sized(9, 90), 5), sized(20, 60), machine(0, state(inf), state(0))} {
		kept := copied(m)
		for _, f := range calls() {
			first, _ := f.does(m)
			second, _ := f.does(m)
			want := copied(second)
			fill(first)
			if !alike(m, kept) {
				t.Errorf("%s shares memory with what was handed in: %v", f.name, m)
			}
			if !alike(second, want) {
				t.Errorf("%s shares memory with another answer: %v", f.name, second)
			}
			for q := range second.States {
				fill(api.Machine{States: second.States[q : q+1 : q+1]})
				for r := q + 1; r < len(second.States); r++ {
					if !slices.Equal(second.States[r].Arcs, want.States[r].Arcs) {
						t.Errorf("%s: states %d and %d share memory", f.name, q, r)
					}
				}
			}
		}
	}
}

// Nothing is kept from call to call, nor of one that was refused.
func TestNothingIsKept(t *testing.T) {
	m := machine(0, state(0, [4]int{1, 2, 0, 0}))
	for _, before := range []api.Machine{sized(60, 400), sized(20, 100), mixed(), {Start: 7}} {
		for _, f := range calls() {
			f.does(before)
		}
		Relabel(before, changed(2, 5), changed(1, 5))
		Relabel(m, changed(1, 5, 1, 5), nil)
		Relabel(m, nil, changed(2, 5, 0, 5))
		got, err := Relabel(m, nil, nil)
		checkTurned(t, "Relabel behind another one", got, err, m)
		got, err = Reverse(m)
		checkTurned(t, "Reverse behind another one", got, err, machine(0, state(inf, [4]int{0, 0, 0, 1}), state(0, [4]int{1, 2, 0, 1})))
	}
}
