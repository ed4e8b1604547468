package compose

import (
	"reflect"
	"slices"
	"testing"

	"tropica/api"
	"tropica/core"
	"tropica/topo"
	"tropica/weigh"
)

func drawer(seed uint64) func(most int) int {
	return func(most int) int {
		seed = seed*6364136223846793005 + 1442695040888963407
		return int((seed >> 33) % uint64(most))
	}
}

// drawn: a machine of a few states, whose weights are a few times the unit; some have no Start, some no states.
func drawn(draw func(int) int, unit int) api.Machine {
	n := draw(8)
	m := api.Machine{Start: min(draw(6*n+1)-1, n-1), States: make([]api.State, n)}
	for q := range m.States {
		m.States[q].Final = []int{inf, inf, 0, unit * draw(9)}[draw(4)]
		for range draw(7) {
			a := arc(draw(3), draw(3), unit*draw(9), draw(n))
			m.States[q].Arcs = append(m.States[q].Arcs, a)
		}
	}
	return m
}

// ahead: a machine of n states whose arcs lead to states of higher numbers only.
func ahead(draw func(int) int, n int) api.Machine {
	m := api.Machine{States: make([]api.State, n)}
	for q := range m.States {
		m.States[q].Final = []int{inf, draw(9)}[draw(2)]
		for to := q + 1; to < n; to++ {
			for range draw(3) {
				m.States[q].Arcs = append(m.States[q].Arcs, arc(draw(3), draw(3), draw(9), to))
			}
		}
	}
	return m
}

// slowHop: what the arcs i of A and j of B do together, by the words of P16.2; -1: no arc.
func slowHop(a, b api.Machine, t api.Triple, i, j int) (api.Hop, bool) {
	switch {
	case i >= 0 && j >= 0:
		x, y := a.States[t.A].Arcs[i], b.States[t.B].Arcs[j]
		return hop(x.In, y.Out, x.Weight+y.Weight, triple(x.To, y.To, 0)), x.Out == y.In && (y.In > 0 || t.F == 0)
	case i >= 0:
		x := a.States[t.A].Arcs[i]
		return hop(x.In, 0, x.Weight, triple(x.To, t.B, 1)), x.Out == 0 && t.F < 2
	case j >= 0:
		y := b.States[t.B].Arcs[j]
		return hop(0, y.Out, y.Weight, triple(t.A, y.To, 2)), y.In == 0 && t.F%2 == 0
	}
	return api.Hop{}, false
}

// slowExpand goes through all pairs of places; behind the last one stands no arc.
func slowExpand(a, b api.Machine, t api.Triple) (int, []api.Hop, api.Errno) {
	if min(t.A, t.B, t.F) < 0 || t.A >= len(a.States) || t.B >= len(b.States) || t.F > 2 {
		return 0, nil, api.ErrState
	}
	final := inf
	if x, y := a.States[t.A].Final, b.States[t.B].Final; x != inf && y != inf {
		final = x + y
		if final > most {
			return 0, nil, api.ErrOver
		}
	}
	var hops []api.Hop
	n, k := len(a.States[t.A].Arcs), len(b.States[t.B].Arcs)
	for at := range (n + 1) * (k + 1) {
		i, j := at/(k+1), at%(k+1)
		if i == n {
			i = -1
		}
		if j == k {
			j = -1
		}
		if h, ok := slowHop(a, b, t, i, j); ok {
			hops = append(hops, h)
		}
	}
	if slices.ContainsFunc(hops, func(h api.Hop) bool { return h.Weight > most }) {
		return 0, nil, api.ErrOver
	}
	return final, hops, api.OK
}

// slowCompose: what P16.3 says, word by word; triples are looked for one by one.
func slowCompose(a, b api.Machine) (api.Machine, api.Errno) {
	if a.Start < 0 || b.Start < 0 {
		return machine(-1), api.OK
	}
	out, arcs := api.Machine{}, 0
	numbered := []api.Triple{triple(a.Start, b.Start, 0)}
	for len(out.States) < len(numbered) {
		final, hops, err := slowExpand(a, b, numbered[len(out.States)])
		if err != api.OK {
			return api.Machine{}, err
		}
		s := state(final)
		for _, h := range hops {
			if !slices.Contains(numbered, h.To) {
				numbered = append(numbered, h.To)
			}
			s.Arcs = append(s.Arcs, arc(h.In, h.Out, h.Weight, slices.Index(numbered, h.To)))
			if arcs++; arcs > api.MaxArcs || len(numbered) > api.MaxStates {
				return api.Machine{}, api.ErrFull
			}
		}
		out.States = append(out.States, s)
	}
	return out, api.OK
}

// checkSlow tells what Expand and Compose answered.
func checkSlow(t *testing.T, a, b api.Machine, at api.Triple) (api.Errno, api.Errno) {
	t.Helper()
	wantFinal, wantHops, wantErr := slowExpand(a, b, at)
	final, hops, expandErr := Expand(a, b, at)
	if final != wantFinal || expandErr != wantErr || !slices.Equal(hops, wantHops) {
		t.Errorf("%v, %v at %v is %d, %v, %v, want %d, %v, %v", a, b, at, final, hops, expandErr, wantFinal, wantHops, wantErr)
	}
	want, wantErr := slowCompose(a, b)
	got, composeErr := Compose(a, b)
	if composeErr != wantErr || !equal(got, want) {
		t.Errorf("%v, %v composed is %v, %v, want %v, %v", a, b, got, composeErr, want, wantErr)
	}
	if composeErr == api.OK && core.Check(got) != api.OK {
		t.Errorf("%v, %v composed is not right: %v", a, b, got)
	}
	return expandErr, composeErr
}

// P16.1, P16.2, P16.3, of many machines
func TestManyMachines(t *testing.T) {
	expand, compose := map[api.Errno]int{}, map[api.Errno]int{}
	for seed := range uint64(5000) {
		draw := drawer(seed)
		unit := []int{1, 1, 1, most / 12}[draw(4)]
		a, b := drawn(draw, unit), drawn(draw, unit)
		e, c := checkSlow(t, a, b, triple(draw(5)-draw(2), draw(5)-draw(2), draw(4)-draw(2)))
		expand[e]++
		compose[c]++
	}
	if expand[api.OK] < 500 || expand[api.ErrState] < 500 || expand[api.ErrOver] < 30 {
		t.Errorf("there are too few answers of a kind: %v", expand)
	}
	if compose[api.OK] < 1000 || compose[api.ErrOver] < 100 || compose[api.ErrFull] < 100 {
		t.Errorf("there are too few answers of a kind: %v", compose)
	}
}

// wordsUpTo n labels, each of them 1 or 2.
func wordsUpTo(n int) [][]int {
	words := [][]int{nil}
	for from := 0; n > 0; n-- {
		to := len(words)
		for _, w := range words[from:to] {
			words = append(words, append(slices.Clone(w), 1), append(slices.Clone(w), 2))
		}
		from = to
	}
	return words
}

// bestBetween: what the best word between x and z costs; a writes none that is longer than these.
func bestBetween(a, b api.Machine, x, z []int, words [][]int) int {
	best := inf
	for _, y := range words {
		first, _ := weigh.Weigh(a, x, y)
		if first == inf {
			continue
		}
		if second, _ := weigh.Weigh(b, y, z); second != inf {
			best = min(best, first+second)
		}
	}
	return best
}

// What comes of it: for each x and z, composed they cost what the best y costs.
func TestComposedCostWhatTheBestWordCosts(t *testing.T) {
	words, between, costly := wordsUpTo(2), wordsUpTo(3), 0
	for seed := range uint64(250) {
		draw := drawer(seed)
		a, b := ahead(draw, 4), drawn(draw, 1)
		c, err := Compose(a, b)
		if err != api.OK {
			continue
		}
		for _, x := range words {
			for _, z := range words {
				want := bestBetween(a, b, x, z, between)
				if got, err := weigh.Weigh(c, x, z); got != want || err != api.OK {
					t.Errorf("%v, %v composed cost %d, %v for %v and %v, want %d", a, b, got, err, x, z, want)
				}
				if want != inf {
					costly++
				}
			}
		}
	}
	if costly < 300 {
		t.Errorf("only %d pairs of words cost something", costly)
	}
}

// pathsBy each word that arcs of a machine without cycles have: how many paths there are from a state on.
func pathsBy(m api.Machine, q int, label func(api.Arc) int, word string, count map[string]int) {
	if m.States[q].Final != inf {
		count[word]++
	}
	for _, a := range m.States[q].Arcs {
		next := word
		if label(a) != 0 {
			next += string(rune('0' + label(a)))
		}
		pathsBy(m, a.To, label, next, count)
	}
}

// P16.1: of all ways to mix empty labels the filter lets just one by: two paths with the same word between them make one path.
func TestFilterLetsOneWayBy(t *testing.T) {
	paths, answers := 0, 0
	for seed := range uint64(3000) {
		draw := drawer(seed)
		a, b := ahead(draw, 4), ahead(draw, 4)
		c, err := Compose(a, b)
		if err != api.OK {
			continue
		}
		written, read, want := map[string]int{}, map[string]int{}, 0
		pathsBy(a, 0, func(x api.Arc) int { return x.Out }, "", written)
		pathsBy(b, 0, func(y api.Arc) int { return y.In }, "", read)
		for word, n := range written {
			want += n * read[word]
		}
		if got, err := topo.Paths(c); got != want || err != api.OK {
			t.Errorf("%v, %v composed have %d paths, %v, want %d", a, b, got, err, want)
		}
		paths += want
		answers++
	}
	if paths < 3000 || answers < 1000 {
		t.Errorf("only %d paths of %d machines", paths, answers)
	}
}

// What comes of it: it does not matter in which order states are expanded. The last triple that came is expanded first here, and each is the state that Compose tells along the same arcs.
func TestOrderOfExpandingDoesNotMatter(t *testing.T) {
	states := 0
	for seed := range uint64(2000) {
		draw := drawer(seed)
		a, b := drawn(draw, 1), drawn(draw, 1)
		c, err := Compose(a, b)
		if err != api.OK || c.Start < 0 {
			continue
		}
		at := triple(a.Start, b.Start, 0)
		numbers, waiting := map[api.Triple]int{at: 0}, []api.Triple{at}
		for len(waiting) > 0 {
			at, waiting = waiting[len(waiting)-1], waiting[:len(waiting)-1]
			s := c.States[numbers[at]]
			final, hops, err := Expand(a, b, at)
			if err != api.OK || final != s.Final || len(hops) != len(s.Arcs) {
				t.Fatalf("%v, %v at %v: %d, %v, %v, but composed %v", a, b, at, final, hops, err, s)
			}
			for i, h := range hops {
				if _, ok := numbers[h.To]; !ok {
					numbers[h.To] = s.Arcs[i].To
					waiting = append(waiting, h.To)
				}
				if s.Arcs[i] != arc(h.In, h.Out, h.Weight, numbers[h.To]) {
					t.Errorf("%v, %v at %v: the hop %v, but composed %v", a, b, at, h, s.Arcs[i])
				}
			}
		}
		if len(numbers) != len(c.States) {
			t.Errorf("%v, %v: %d triples, but composed %d states", a, b, len(numbers), len(c.States))
		}
		states += len(numbers)
	}
	if states < 3000 {
		t.Errorf("only %d states were expanded", states)
	}
}

// Every call ends: as many arcs as may be, which all go together, or alone.
func TestGreatMachines(t *testing.T) {
	for _, label := range []int{0, 1} {
		a, b := one(loops(api.MaxArcs, 1, label, 1)...), one(loops(api.MaxArcs, label, 1, 1)...)
		for f := range 3 {
			checkSlow(t, a, b, triple(0, 0, f))
		}
	}
	checkSlow(t, grid(60), grid(60), triple(59, 59, 0))
	checkSlow(t, grid(4), grid(5), triple(3, 4, 1))
	checkSlow(t, chain(60, 1), chain(60, 1), triple(59, 59, 2))
}

// What is handed in stays as it is, the spare room of its lists too, and does not count.
func TestWhatIsHandedInStays(t *testing.T) {
	wrong := arc(-1, -1, -1, -1)
	arcs := []api.Arc{arc(2, 1, 3, 1), arc(1, 0, 1, 1), arc(1, 2, 5, 0), wrong, wrong}
	states := []api.State{{Final: inf, Arcs: arcs[:2]}, {Final: 4, Arcs: arcs[1:3]}, {Final: -1, Arcs: arcs[3:]}, {Final: -1}}
	keptArcs, keptStates := slices.Clone(arcs), slices.Clone(states)
	m := api.Machine{States: states[:2]}
	b := one(arc(1, 1, 0, 0))
	checkCompose(t, "with spare room", m, b, machine(0,
		state(inf, arc(2, 1, 3, 1), arc(1, 0, 1, 2)), state(4, arc(1, 0, 1, 2)), state(4, arc(1, 0, 1, 2))))
	checkExpand(t, "with spare room", b, m, triple(0, 1, 0), 4, hop(1, 0, 1, triple(0, 1, 0)), hop(1, 2, 5, triple(0, 0, 0)))
	checkNoExpand(t, "spare states", m, b, triple(2, 0, 0), api.ErrState)
	checkNoCompose(t, "wrong ones", api.Machine{States: states}, b, api.ErrRange)
	if !slices.Equal(arcs, keptArcs) || !reflect.DeepEqual(states, keptStates) {
		t.Errorf("the arcs became %v, the states %v", arcs, states)
	}
}

func copied(m api.Machine) api.Machine {
	m.States = slices.Clone(m.States)
	for q := range m.States {
		m.States[q].Arcs = slices.Clone(m.States[q].Arcs)
	}
	return m
}

// fill writes over all that a machine has, the spare room too.
func fill(m api.Machine) {
	for _, s := range m.States {
		arcs := s.Arcs[:cap(s.Arcs)]
		for i := range arcs {
			arcs[i] = arc(-7, -7, -7, -7)
		}
	}
	states := m.States[:cap(m.States)]
	for q := range states {
		states[q] = api.State{Final: -7}
	}
}

// An answer is new memory: what is written over it is seen nowhere else.
func TestAnswersAreNewMemory(t *testing.T) {
	shared := []api.Arc{arc(2, 1, 3, 1), arc(1, 1, 1, 0), arc(1, 0, 2, 2), arc(0, 2, 3, 1), arc(3, 3, 3, 0)}
	a := machine(0, state(0, shared[:3]...), state(1, shared[1:4]...), state(2, shared[2:]...))
	b := machine(0, state(0, shared[:2]...), state(1, shared[1:4]...), state(2))
	keptA, keptB := copied(a), copied(b)
	first, err := Compose(a, b)
	second, _ := Compose(a, b)
	want := copied(second)
	if err != api.OK || len(first.States) < 4 {
		t.Fatalf("composed is %v, %v", first, err)
	}
	fill(first)
	_, hops, _ := Expand(a, b, api.Triple{})
	_, again, _ := Expand(a, b, api.Triple{})
	wantHops := slices.Clone(again)
	clear(hops[:cap(hops)])
	if !equal(a, keptA) || !equal(b, keptB) {
		t.Errorf("an answer shares memory with what was handed in: %v, %v", a, b)
	}
	if !equal(second, want) || len(again) == 0 || !slices.Equal(again, wantHops) {
		t.Errorf("an answer shares memory with another one: %v, %v", second, again)
	}
	for q := range second.States {
		fill(api.Machine{States: second.States[q : q+1 : q+1]})
		for r := q + 1; r < len(second.States); r++ {
			if !slices.Equal(second.States[r].Arcs, want.States[r].Arcs) {
				t.Errorf("states %d and %d share memory", q, r)
			}
		}
	}
}

// Nothing is kept from call to call, nor of one that was refused.
func TestNothingIsKept(t *testing.T) {
	a := machine(0, state(inf, arc(1, 2, 3, 1)), state(0))
	b := machine(0, state(inf, arc(2, 3, 4, 1)), state(1))
	for _, before := range []api.Machine{grid(60), chain(60, 1), chain(60, most), one(loops(400, 1, 1, most)...), {Start: 7}, machine(-1)} {
		Compose(before, before)
		checkCompose(t, "behind another one", a, b, machine(0, state(inf, arc(1, 3, 7, 1)), state(1)))
		Expand(before, before, api.Triple{})
		checkExpand(t, "behind another one", a, b, api.Triple{}, inf, hop(1, 3, 7, triple(1, 1, 0)))
	}
}
