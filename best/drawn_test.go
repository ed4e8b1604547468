package best

import (
	"reflect"
	"slices"
	"testing"

	"tropica/api"
	"tropica/arrange"
	"tropica/core"
	"tropica/distance"
	"tropica/topo"
	"tropica/turn"
	"tropica/weigh"
)

func drawer(seed uint64) func(most int) int {
	return func(most int) int {
		seed = seed*6364136223846793005 + 1442695040888963407
		return int((seed >> 33) % uint64(most))
	}
}

// drawn: a machine of a few states, the same one for each seed; weights are often 0 or the same; some have no Start, some cost much.
func drawn(seed uint64) api.Machine {
	draw := drawer(seed)
	n := 1 + draw(6)
	unit := []int{1, 1, most / 4}[draw(3)]
	weights := []int{1, 2, 3, 9}[draw(4)]
	m := api.Machine{Start: max(draw(n+n), n) - n, States: make([]api.State, n)}
	if draw(20) == 0 {
		m.Start = -1
	}
	for q := range m.States {
		m.States[q].Final = []int{inf, inf, 0, min(unit*draw(9), most)}[draw(4)]
		for range draw(5) {
			m.States[q].Arcs = append(m.States[q].Arcs, arc(draw(3), draw(3), min(unit*draw(weights), most), draw(n)))
		}
	}
	return m
}

// walks: all of just so many arcs from a state on, those whose arcs stand first ahead; each is told with what it costs to end there, if it can.
func walks(m api.Machine, q, arcs int, ahead []int, cost int, tell func(arcs []int, cost int)) {
	s := m.States[q]
	if arcs == 0 {
		if s.Final != inf {
			tell(ahead, cost+s.Final)
		}
		return
	}
	for place, a := range s.Arcs {
		walks(m, a.To, arcs-1, append(slices.Clone(ahead), place), cost+a.Weight, tell)
	}
}

// slowBest: all paths that are in no state twice are gone, those of fewer arcs first; a later one must cost less.
func slowBest(m api.Machine) (api.Path, api.Errno) {
	if _, err := distance.Ends(m); err != api.OK {
		return api.Path{}, err
	}
	if m.Start < 0 {
		return api.Path{}, api.ErrNone
	}
	best, err := api.Path{}, api.ErrNone
	for arcs := range m.States {
		walks(m, m.Start, arcs, nil, 0, func(arcs []int, cost int) {
			if err != api.OK || cost < best.Weight {
				best, err = api.Path{Weight: cost, Arcs: arcs}, api.OK
			}
		})
	}
	return best, err
}

// slowCosts: of each state, what the n cheapest walks of at most so many arcs cost, for more arcs each time.
func slowCosts(m api.Machine, n int) ([]int, api.Errno) {
	if _, err := distance.Ends(m); err != api.OK || m.Start < 0 {
		return nil, err
	}
	costs := make([][]int, len(m.States))
	// The n cheapest ones can do without being in a state more than n times.
	for range n*len(m.States) + 1 {
		next := make([][]int, len(m.States))
		for q, s := range m.States {
			if s.Final != inf {
				next[q] = append(next[q], s.Final)
			}
			for _, a := range s.Arcs {
				for _, c := range costs[a.To] {
					next[q] = append(next[q], a.Weight+c)
				}
			}
			slices.Sort(next[q])
			next[q] = next[q][:min(n, len(next[q]))]
		}
		costs = next
	}
	for _, c := range costs[m.Start] {
		if c > most {
			return nil, api.ErrOver
		}
	}
	return costs[m.Start], api.OK
}

// P20.1, of many machines
func TestBestOfManyMachines(t *testing.T) {
	times := map[api.Errno]int{}
	arcs := 0
	for seed := range uint64(4000) {
		m := drawn(seed)
		want, wantErr := slowBest(m)
		times[wantErr]++
		arcs += len(want.Arcs)
		if wantErr != api.OK {
			checkNoBest(t, "drawn", m, wantErr)
		} else {
			checkBest(t, "drawn", m, want.Weight, want.Arcs...)
		}
	}
	if min(times[api.OK], times[api.ErrNone], times[api.ErrOver]) < 50 || arcs < 500 {
		t.Errorf("only %v answers, of %d arcs", times, arcs)
	}
}

// P20.2, of many machines
func TestCostsOfManyMachines(t *testing.T) {
	times, long := map[api.Errno]int{}, 0
	for seed := range uint64(4000) {
		m, n := drawn(seed), int(seed%(api.MaxBest+1))
		want, wantErr := slowCosts(m, n)
		checkCosts(t, "drawn", m, n, want, wantErr)
		times[wantErr]++
		if len(want) > 3 {
			long++
		}
	}
	if min(times[api.OK], times[api.ErrOver]) < 200 || long < 200 {
		t.Errorf("only %v answers, %d of them long", times, long)
	}
}

// What comes of P20.1 and P20.3: who follows the best path pays what it costs, its words cost no less, and no less can be paid.
func TestBestIsFollowed(t *testing.T) {
	found := 0
	for seed := range uint64(3000) {
		m := drawn(seed)
		p, err := Best(m)
		if err != api.OK {
			continue
		}
		found++
		x, y, cost, err := Follow(m, p.Arcs)
		least, _ := distance.Least(m)
		if err != api.OK || cost != p.Weight || cost != least {
			t.Errorf("Best of %v is %v, Least %d, followed %d, %v", m, p, least, cost, err)
		}
		if c, err := weigh.Weigh(m, x, y); err != api.OK || c != cost {
			t.Errorf("%v costs %d, %v for %v and %v, its best path %d", m, c, err, x, y, cost)
		}
		checkCosts(t, "of the best path", m, 1, []int{cost}, api.OK)
	}
	if found < 500 {
		t.Errorf("only %d machines have a path", found)
	}
}

// P20.3, of all short walks of many machines
func TestManyWalksAreFollowed(t *testing.T) {
	found := 0
	for seed := range uint64(1000) {
		m := drawn(seed)
		if core.Check(m) != api.OK || m.Start < 0 {
			continue
		}
		for arcs := range 4 {
			walks(m, m.Start, arcs, nil, 0, func(arcs []int, cost int) {
				found++
				if cost > most {
					checkNoFollow(t, "a walk", m, arcs, api.ErrOver)
					return
				}
				x, y := words(m, arcs)
				checkFollow(t, "a walk", m, arcs, x, y, cost)
				checkNoFollow(t, "an arc that there is not", m, append(slices.Clone(arcs), api.MaxArcs), api.ErrNone)
			})
		}
	}
	if found < 2000 {
		t.Errorf("only %d walks", found)
	}
}

// words that a walk reads and writes: all labels, and then without the empty ones.
func words(m api.Machine, arcs []int) (x, y []int) {
	q := m.Start
	for _, place := range arcs {
		a := m.States[q].Arcs[place]
		x, y, q = append(x, a.In), append(y, a.Out), a.To
	}
	empty := func(label int) bool { return label == 0 }
	return slices.DeleteFunc(x, empty), slices.DeleteFunc(y, empty)
}

// What comes of P20.2: fewer ones are the first ones, all paths of a machine without cycles are told, and no order of arcs and no labels matter.
func TestCostsAreTheSame(t *testing.T) {
	counted := 0
	for seed := range uint64(2000) {
		m := drawn(seed)
		all, err := Costs(m, api.MaxBest)
		if err != api.OK {
			continue
		}
		for n := range api.MaxBest {
			checkCosts(t, "fewer", m, n, all[:min(n, len(all))], api.OK)
		}
		sorted, _ := arrange.Sorted(m)
		checkCosts(t, "sorted", sorted, api.MaxBest, all, api.OK)
		inverted, _ := turn.Invert(m)
		checkCosts(t, "inverted", inverted, api.MaxBest, all, api.OK)
		reversed, _ := turn.Reverse(m)
		if _, err := distance.Ends(reversed); err == api.OK {
			checkCosts(t, "from behind", reversed, api.MaxBest, all, api.OK)
		}
		if paths, err := topo.Paths(m); err == api.OK {
			counted++
			if len(all) != min(paths, api.MaxBest) {
				t.Errorf("Costs of %v are %v, there are %d paths", m, all, paths)
			}
		}
	}
	if counted < 100 {
		t.Errorf("only %d machines have their paths counted", counted)
	}
}

// wide: as many states and arcs as may be, with many cycles.
func wide(unit int) api.Machine {
	m := api.Machine{States: make([]api.State, api.MaxStates)}
	for q := range m.States {
		m.States[q].Final = inf
	}
	for i := range api.MaxArcs {
		q, step := i%api.MaxStates, i/api.MaxStates
		a := arc(i%2, i%3, min(unit*(i%5), most), (q+1+step*step)%api.MaxStates)
		m.States[q].Arcs = append(m.States[q].Arcs, a)
	}
	m.States[7].Final = 4
	return m
}

// Every call ends: great machines, with many cycles, for nothing or not.
func TestGreatMachines(t *testing.T) {
	for _, unit := range []int{0, 1, most / 40, most} {
		m := wide(unit)
		want, wantErr := slowCosts(m, api.MaxBest)
		checkCosts(t, "wide", m, api.MaxBest, want, wantErr)
		least, err := distance.Least(m)
		if err != api.OK {
			checkNoBest(t, "wide", m, err)
			continue
		}
		p, err := Best(m)
		_, _, cost, _ := Follow(m, p.Arcs)
		if err != api.OK || p.Weight != least || cost != least {
			t.Errorf("Best of a wide one is %v, %v, followed %d, Least %d", p, err, cost, least)
		}
	}
	loops := loop(3, make([]int, api.MaxArcs)...)
	checkBest(t, "loops", loops, 3)
	checkCosts(t, "loops", loops, api.MaxBest, slices.Repeat([]int{3}, api.MaxBest), api.OK)
	checkCosts(t, "a chain", chain(api.MaxStates, most/59, most%59), api.MaxBest, []int{most}, api.OK)
	checkCosts(t, "a chain, too much by one", chain(api.MaxStates, most/59, most%59+1), api.MaxBest, nil, api.ErrOver)
	checkNoBest(t, "a chain, too much by one", chain(api.MaxStates, most/59, most%59+1), api.ErrOver)
}

// What is handed in stays as it is, the spare room of its lists too, and does not count.
func TestWhatIsHandedInStays(t *testing.T) {
	wrong := arc(-1, -1, -1, -1)
	arcs := []api.Arc{arc(1, 0, 3, 1), arc(2, 5, 1, 1), arc(0, 2, 5, 0), wrong, wrong}
	states := []api.State{{Final: inf, Arcs: arcs[:2]}, {Final: 4, Arcs: arcs[1:3]}, {Final: -1, Arcs: arcs[3:]}, {Final: -1}}
	places := []int{1, 0, 1, 0, 99, -1}
	keptArcs, keptStates, keptPlaces := slices.Clone(arcs), slices.Clone(states), slices.Clone(places)
	m := api.Machine{States: states[:2]}
	checkBest(t, "handed in", m, 5, 1)
	checkCosts(t, "handed in", m, 3, []int{5, 6, 7}, api.OK)
	checkFollow(t, "handed in", m, places[:4], []int{2, 2, 1}, []int{5, 5, 2}, 1+1+5+3+4)
	if !slices.Equal(arcs, keptArcs) || !reflect.DeepEqual(states, keptStates) || !slices.Equal(places, keptPlaces) {
		t.Errorf("the arcs became %v, the states %v, the places %v", arcs, states, places)
	}
}

// spoil a list, its spare room too.
func spoil(list []int) {
	list = list[:cap(list)]
	for i := range list {
		list[i] = -7
	}
}

// An answer is new memory: what is written over it is seen nowhere else, and nothing is kept, nor of what was refused.
func TestAnswersAreNewMemory(t *testing.T) {
	m := machine(0, state(inf, arc(1, 2, 3, 1)), state(inf, arc(4, 5, 6, 2), arc(7, 8, 5, 2)), state(1))
	path := []int{0, 1}
	for _, before := range []api.Machine{example(), wide(1), chain(60, most, most), {Start: 7}} {
		Best(before)
		Costs(before, 3)
		Follow(before, path)
		p, _ := Best(m)
		costs, _ := Costs(m, 5)
		x, y, _, _ := Follow(m, path)
		wantX, wantY := []int{1, 7}, []int{2, 8}
		spoil(x)
		if !slices.Equal(y, wantY) {
			t.Errorf("what is written became %v", y)
		}
		spoil(y)
		spoil(p.Arcs)
		spoil(costs)
		checkBest(t, "a later answer", m, 9, path...)
		checkCosts(t, "a later answer", m, 5, []int{9, 10}, api.OK)
		checkFollow(t, "a later answer", m, path, wantX, wantY, 9)
	}
}
