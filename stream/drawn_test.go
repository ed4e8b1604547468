package stream

import (
	"slices"
	"testing"

	"tropica/api"
	"tropica/weigh"
)

func drawer(seed uint64) func(most int) int {
	return func(most int) int {
		seed = seed*6364136223846793005 + 1442695040888963407
		return int((seed >> 33) % uint64(most))
	}
}

// drawn: a machine of a few states, the same one for each seed, with what draws on; weights are often 0 or the same; some have no Start, some cost much.
func drawn(seed uint64) (api.Machine, func(most int) int) {
	draw := drawer(seed)
	n := 1 + draw(5)
	unit := []int{1, 1, 1, most / 3}[draw(4)]
	weights := []int{1, 2, 3, 9}[draw(4)]
	m := api.Machine{Start: max(draw(n+n), n) - n, States: make([]api.State, n)}
	if draw(30) == 0 {
		m.Start = -1
	}
	for q := range m.States {
		m.States[q].Final = []int{inf, 0, 0, min(unit*draw(9), most)}[draw(4)]
		for range draw(7) {
			m.States[q].Arcs = append(m.States[q].Arcs, arc(draw(3), draw(4), min(unit*draw(weights), most), draw(n)))
		}
	}
	return m, draw
}

func drawnWord(draw func(most int) int, longest int) []int {
	word := make([]int, draw(longest+1))
	for i := range word {
		word[i] = 1 + draw(2)
	}
	return word
}

// slowBetter: told by one list of numbers each.
func slowBetter(a, b api.Mark) bool {
	return slices.Compare(append([]int{a.Weight, len(a.Out)}, a.Out...), append([]int{b.Weight, len(b.Out)}, b.Out...)) < 0
}

// slowAlong: all marks that come of these by arcs that read this.
func slowAlong(m api.Machine, marks []api.Mark, label int) []api.Mark {
	var list []api.Mark
	for _, k := range marks {
		for _, a := range m.States[k.State].Arcs {
			if a.In != label {
				continue
			}
			out := slices.Clone(k.Out)
			if a.Out > 0 {
				out = append(out, a.Out)
			}
			list = append(list, mark(a.To, k.Weight+a.Weight, out...))
		}
	}
	return list
}

// slowBest of each state.
func slowBest(m api.Machine, marks []api.Mark) []api.Mark {
	var list []api.Mark
	for q := range m.States {
		found := false
		for _, k := range marks {
			if k.State != q {
				continue
			}
			if !found {
				list, found = append(list, k), true
			} else if slowBetter(k, list[len(list)-1]) {
				list[len(list)-1] = k
			}
		}
	}
	return list
}

// slowClosed: as many rounds as there are states, and one more, which changes nothing.
func slowClosed(m api.Machine, marks []api.Mark) []api.Mark {
	for range len(m.States) + 1 {
		marks = slowBest(m, append(slowAlong(m, marks, 0), marks...))
	}
	return marks
}

func slowOver(marks []api.Mark) bool {
	return slices.ContainsFunc(marks, func(k api.Mark) bool { return k.Weight > most })
}

func slowBegin(m api.Machine) (api.Run, api.Errno) {
	var marks []api.Mark
	if m.Start >= 0 {
		marks = slowClosed(m, []api.Mark{mark(m.Start, 0)})
	}
	if slowOver(marks) {
		return api.Run{}, api.ErrOver
	}
	return run(0, marks...), api.OK
}

func slowFeed(m api.Machine, r api.Run, labels []int) (api.Run, api.Errno) {
	marks := r.Marks
	for _, label := range labels {
		marks = slowClosed(m, slowAlong(m, marks, label))
		if slowOver(marks) {
			return api.Run{}, api.ErrOver
		}
	}
	return run(r.Fed+len(labels), marks...), api.OK
}

func slowEnd(m api.Machine, r api.Run) ([]int, int, api.Errno) {
	var ends []api.Mark
	for _, k := range r.Marks {
		if final := m.States[k.State].Final; final != inf {
			ends = append(ends, mark(0, k.Weight+final, k.Out...))
		}
	}
	best := slowBest(api.Machine{States: make([]api.State, 1)}, ends)
	switch {
	case len(best) == 0:
		return nil, 0, api.ErrNone
	case best[0].Weight > most:
		return nil, 0, api.ErrOver
	}
	return best[0].Out, best[0].Weight, api.OK
}

// P21.2 to P21.5, of many machines that are begun, fed and ended
func TestManyRuns(t *testing.T) {
	begun, fed, ended := map[api.Errno]int{}, map[api.Errno]int{}, map[api.Errno]int{}
	long := 0
	for seed := range uint64(9000) {
		m, draw := drawn(seed)
		r, err := slowBegin(m)
		begun[err]++
		checkBegin(t, "drawn", m, r, err)
		if err != api.OK {
			continue
		}
		word := drawnWord(draw, 6)
		next, err := slowFeed(m, r, word)
		fed[err]++
		checkFeed(t, "drawn", m, r, word, next, err)
		if err != api.OK {
			continue
		}
		out, cost, err := slowEnd(m, next)
		ended[err]++
		checkEnd(t, "drawn", m, next, out, cost, err)
		if len(out) > 2 {
			long++
		}
	}
	if begun[api.OK] < 5000 || begun[api.ErrOver] < 20 || min(fed[api.OK], fed[api.ErrOver]) < 100 ||
		min(ended[api.OK], ended[api.ErrNone], ended[api.ErrOver]) < 20 || long < 300 {
		t.Errorf("too few: begun %v, fed %v, ended %v, %d with much written", begun, fed, ended, long)
	}
}

// drawnRun: any that may be, closed or not.
func drawnRun(m api.Machine, draw func(most int) int) api.Run {
	r := api.Run{Fed: draw(5)}
	unit := []int{1, 1, most / 4, most / 4}[draw(4)]
	for q := range m.States {
		if draw(2) == 0 {
			r.Marks = append(r.Marks, mark(q, unit*draw(5), drawnWord(draw, 3)...))
		}
	}
	return r
}

// P21.4 and P21.5, of many runs that were not begun
func TestManyOtherRuns(t *testing.T) {
	fed, ended := map[api.Errno]int{}, map[api.Errno]int{}
	for seed := range uint64(4000) {
		m, draw := drawn(seed)
		r, word := drawnRun(m, draw), drawnWord(draw, 4)
		next, err := slowFeed(m, r, word)
		fed[err]++
		checkFeed(t, "drawn", m, r, word, next, err)
		out, cost, err := slowEnd(m, r)
		ended[err]++
		checkEnd(t, "drawn", m, r, out, cost, err)
	}
	if min(fed[api.OK], fed[api.ErrOver], ended[api.OK], ended[api.ErrNone], ended[api.ErrOver]) < 100 {
		t.Errorf("too few: fed %v, ended %v", fed, ended)
	}
}

// What comes of it: it does not matter in which pieces labels are fed.
func TestPieces(t *testing.T) {
	same := 0
	for seed := range uint64(2000) {
		m, draw := drawn(seed)
		r, err := Begin(m)
		if err != api.OK {
			continue
		}
		word := drawnWord(draw, api.MaxFeed)
		want, wantErr := Feed(m, r, word)
		if wantErr == api.OK {
			same++
		}
		for cut := range len(word) + 1 {
			next, err := Feed(m, r, word[:cut])
			if err == api.OK {
				checkFeed(t, "behind its first piece", m, next, word[cut:], want, wantErr)
			} else if err != wantErr {
				t.Errorf("Feed of %v with %v is %v, with a piece of it %v", m, word, wantErr, err)
			}
		}
	}
	if same < 1000 {
		t.Errorf("only %d machines were fed", same)
	}
}

// What comes of it: what is written is the cheapest that the machine can write for what it read.
func TestWhatIsWrittenIsTheCheapest(t *testing.T) {
	written, none := 0, 0
	for seed := range uint64(3000) {
		m, draw := drawn(seed)
		word := drawnWord(draw, 5)
		r, err := Begin(m)
		if err == api.OK {
			r, err = Feed(m, r, word)
		}
		if err != api.OK {
			continue
		}
		out, cost, err := End(m, r)
		least, leastErr := weigh.Reads(m, word)
		switch err {
		case api.OK:
			written++
			if leastErr != api.OK || cost != least {
				t.Errorf("%v costs %d for %v, %v, what it writes %d", m, least, word, leastErr, cost)
			}
			if len(out) > api.MaxWord {
				continue
			}
			if c, err := weigh.Weigh(m, word, out); err != api.OK || c != cost {
				t.Errorf("%v costs %d, %v for %v and %v, what it writes %d", m, c, err, word, out, cost)
			}
		case api.ErrNone:
			none++
			if leastErr != api.OK || least != inf {
				t.Errorf("%v costs %d, %v for %v, but has no end", m, least, leastErr, word)
			}
		default:
			if leastErr != err {
				t.Errorf("%v costs %d, %v for %v, its end is %v", m, least, leastErr, word, err)
			}
		}
	}
	if written < 800 || none < 300 {
		t.Errorf("only %d writings, %d without an end", written, none)
	}
}

// wide: as many states and arcs as may be, with many ways and cycles.
func wide(unit int) api.Machine {
	m := api.Machine{States: make([]api.State, api.MaxStates)}
	for i := range api.MaxArcs {
		q, step := i%api.MaxStates, i/api.MaxStates
		a := arc([]int{0, 0, 1}[step%3], 1+(i*i)%3, min(unit*(i%5), most), (q+1+step*step)%api.MaxStates)
		m.States[q].Arcs = append(m.States[q].Arcs, a)
	}
	return m
}

// Every call ends, and no run that comes of Begin writes more than may be.
func TestGreatMachines(t *testing.T) {
	ones := slices.Repeat([]int{1}, api.MaxFeed)
	round := chain(api.MaxStates, 1, 0)
	round.States[api.MaxStates-1].Arcs = []api.Arc{arc(1, 1, 0, 0)}
	round.States[0].Arcs = append(round.States[0].Arcs, on(0, 0, 0))
	for _, m := range []api.Machine{wide(0), wide(1), wide(most / 40), wide(most / 600), wide(most), round, chain(api.MaxStates, 1, most/59)} {
		want, wantErr := slowBegin(m)
		checkBegin(t, "great", m, want, wantErr)
		if wantErr != api.OK {
			continue
		}
		next, nextErr := slowFeed(m, want, ones)
		checkFeed(t, "great", m, want, ones, next, nextErr)
		if nextErr == api.OK {
			out, cost, err := slowEnd(m, next)
			checkEnd(t, "great", m, next, out, cost, err)
		}
	}
	r, _ := Begin(round)
	r, err := Feed(round, r, ones)
	longest := 12*api.MaxStates + api.MaxStates - 1
	if err != api.OK || len(r.Marks) != api.MaxStates || len(r.Marks[api.MaxStates-1].Out) != longest || longest > api.MaxOut {
		t.Errorf("round and round: %v, %v", r, err)
	}
	many := loop(0, slices.Repeat([]api.Arc{arc(1, 1, 1, 0), on(1, 0, 0)}, api.MaxArcs/2)...)
	checkFeed(t, "many loops", many, run(0, mark(0, 0)), ones, run(12, mark(0, 12, ones...)), api.OK)
}
