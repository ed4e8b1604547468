package weigh

import (
	"math"
	"slices"
	"strconv"
	"testing"

	"tropica/api"
	"tropica/core"
)

const (
	most = api.MaxWeight
	inf  = api.Inf
	top  = api.MaxLabel
)

func machine(start int, states ...api.State) api.Machine {
	return api.Machine{Start: start, States: states}
}

// state that ends for this much, with these arcs: In, Out, Weight and To of each.
func state(final int, arcs ...[4]int) api.State {
	s := api.State{Final: final}
	for _, a := range arcs {
		s.Arcs = append(s.Arcs, api.Arc{In: a[0], Out: a[1], Weight: a[2], To: a[3]})
	}
	return s
}

func word(labels ...int) []int { return labels }

// long: a word of n labels, from 1 on.
func long(n int) []int {
	l := make([]int, n)
	for i := range l {
		l[i] = 1 + i
	}
	return l
}

// simple: reads 1, writes 2, for 3.
func simple() api.Machine { return machine(0, state(inf, [4]int{1, 2, 3, 1}), state(0)) }

// sized: so many states, none of which can end, with so many arcs in all.
func sized(states, arcs int) api.Machine {
	m := api.Machine{States: make([]api.State, states)}
	for q := range m.States {
		m.States[q].Final = inf
	}
	for i := range arcs {
		s := &m.States[i*7%states]
		s.Arcs = append(s.Arcs, api.Arc{In: 1 + i, Out: i, Weight: i, To: i % states})
	}
	return m
}

// chain: n states, an empty arc of this weight to the next one each; the last one ends for final.
func chain(n, weight, final int) api.Machine {
	m := sized(n, 0)
	for q := range n - 1 {
		m.States[q].Arcs = []api.Arc{{Weight: weight, To: q + 1}}
	}
	m.States[n-1].Final = final
	return m
}

func copied(m api.Machine) api.Machine {
	m.States = slices.Clone(m.States)
	for q := range m.States {
		m.States[q].Arcs = slices.Clone(m.States[q].Arcs)
	}
	return m
}

// alike: the same but for lists without elements, which may be nil or not.
func alike(a, b api.Machine) bool {
	return a.Start == b.Start && slices.EqualFunc(a.States, b.States, func(s, r api.State) bool {
		return s.Final == r.Final && slices.Equal(s.Arcs, r.Arcs)
	})
}

func checkMade(t *testing.T, what string, got api.Machine, err api.Errno, want api.Machine) {
	t.Helper()
	if err != api.OK || !alike(got, want) {
		t.Errorf("%s: %v, %v, want %v", what, got, err, want)
	}
	if e := core.Check(got); e != api.OK {
		t.Errorf("%s: %v is not right: %v", what, got, e)
	}
}

func checkNone(t *testing.T, what string, got api.Machine, err, want api.Errno) {
	t.Helper()
	if err != want || got.Start != 0 || len(got.States) != 0 {
		t.Errorf("%s: %v, %v, want nothing, %v", what, got, err, want)
	}
}

func checkCost(t *testing.T, what string, got int, err api.Errno, want int, wantErr api.Errno) {
	t.Helper()
	if err != wantErr || got != want {
		t.Errorf("%s: %d, %v, want %d, %v", what, got, err, want, wantErr)
	}
}

type wrongWord struct {
	what string
	word []int
	want api.Errno
}

// wrongWords: with one fault, and with both, of which the first one named counts.
func wrongWords() []wrongWord {
	l := []wrongWord{
		{"a label too many", long(api.MaxWord + 1), api.ErrSize},
		{"far too many labels", make([]int, 1<<16), api.ErrSize},
		{"a label too many, all of them 0", make([]int, api.MaxWord+1), api.ErrSize},
		{"a label too many, which may not be", append(long(api.MaxWord), -1), api.ErrSize},
		{"as many as may be, the last one too high", append(long(api.MaxWord-1), top+1), api.ErrRange},
		{"as many as may be, the first one 0", append(word(0), long(api.MaxWord-1)...), api.ErrRange},
		{"as many as may be, all of them 0", make([]int, api.MaxWord), api.ErrRange},
	}
	for _, n := range []int{math.MinInt, math.MaxInt, -1 << 32, 1<<32 + 1, -1, 0, top + 1} {
		l = append(l,
			wrongWord{"only " + strconv.Itoa(n), word(n), api.ErrRange},
			wrongWord{strconv.Itoa(n) + " between", word(1, n, 2), api.ErrRange})
	}
	return l
}

func rightWords() [][]int {
	return [][]int{nil, {}, {1}, {top}, {1, 1, top}, long(api.MaxWord)}
}

// P12.1
func TestWordsThatMayNotBe(t *testing.T) {
	m := simple()
	for _, c := range wrongWords() {
		got, err := Line(c.word)
		checkNone(t, "Line: "+c.what, got, err, c.want)
		n, err := Reads(m, c.word)
		checkCost(t, "Reads: "+c.what, n, err, 0, c.want)
		for _, r := range rightWords() {
			got, err = Cross(c.word, r)
			checkNone(t, "Cross, x: "+c.what, got, err, c.want)
			got, err = Cross(r, c.word)
			checkNone(t, "Cross, y: "+c.what, got, err, c.want)
			n, err = Weigh(m, c.word, r)
			checkCost(t, "Weigh, x: "+c.what, n, err, 0, c.want)
			n, err = Weigh(m, r, c.word)
			checkCost(t, "Weigh, y: "+c.what, n, err, 0, c.want)
		}
	}
}

// P12.1: x ahead of y.
func TestBothWordsMayNotBe(t *testing.T) {
	for _, x := range wrongWords() {
		for _, y := range wrongWords() {
			what := x.what + "; " + y.what
			got, err := Cross(x.word, y.word)
			checkNone(t, "Cross: "+what, got, err, x.want)
			n, err := Weigh(simple(), x.word, y.word)
			checkCost(t, "Weigh: "+what, n, err, 0, x.want)
		}
	}
}

// P12.1: a word that may not be is refused even where there is no path at all.
func TestWordsAreRefusedByAllMachines(t *testing.T) {
	for _, m := range []api.Machine{machine(-1), machine(-1, state(0)), chain(2, most, most), sized(api.MaxStates, api.MaxArcs)} {
		for _, c := range wrongWords() {
			n, err := Weigh(m, c.word, nil)
			checkCost(t, "Weigh, x: "+c.what, n, err, 0, c.want)
			n, err = Weigh(m, nil, c.word)
			checkCost(t, "Weigh, y: "+c.what, n, err, 0, c.want)
			n, err = Reads(m, c.word)
			checkCost(t, "Reads: "+c.what, n, err, 0, c.want)
		}
	}
}

// wrongMachines: one of the most, and one of each number, that may not be.
func wrongMachines() []api.Machine {
	l := []api.Machine{{}, {Start: 1}, {Start: -2}, sized(api.MaxStates+1, 0), sized(5, api.MaxArcs+1)}
	for _, n := range []int{math.MinInt, math.MaxInt, -2, inf + 1} {
		l = append(l,
			machine(n, state(0)),
			machine(0, state(n)),
			machine(0, state(0, [4]int{n, 0, 0, 0})),
			machine(0, state(0, [4]int{0, n, 0, 0})),
			machine(0, state(0, [4]int{0, 0, n, 0})),
			machine(0, state(0, [4]int{0, 0, 0, n})))
	}
	return append(l,
		machine(0, state(0, [4]int{top + 1, 0, 0, 0})),
		machine(0, state(0, [4]int{0, top + 1, 0, 0})),
		machine(0, state(0, [4]int{0, 0, inf, 0})),
		machine(0, state(0, [4]int{0, 0, 0, 1})),
		machine(0, state(0, [4]int{0, 0, 0, -1})))
}

// P4.1, P12.1: a machine that is not right is refused ahead of words that may not be.
func TestMachinesThatAreNotRight(t *testing.T) {
	for _, m := range wrongMachines() {
		want := core.Check(m)
		if want == api.OK {
			t.Errorf("%v is right", m)
		}
		n, err := Weigh(m, nil, nil)
		checkCost(t, "Weigh", n, err, 0, want)
		n, err = Reads(m, nil)
		checkCost(t, "Reads", n, err, 0, want)
		for _, c := range wrongWords() {
			n, err = Weigh(m, c.word, nil)
			checkCost(t, "Weigh, x: "+c.what, n, err, 0, want)
			n, err = Weigh(m, nil, c.word)
			checkCost(t, "Weigh, y: "+c.what, n, err, 0, want)
			n, err = Reads(m, c.word)
			checkCost(t, "Reads: "+c.what, n, err, 0, want)
		}
	}
}

// P12.2
func TestCross(t *testing.T) {
	for _, c := range []struct {
		what string
		x, y []int
		want api.Machine
	}{
		{"nothing", nil, nil, machine(0, state(0))},
		{"nothing, not nil", word(), word(), machine(0, state(0))},
		{"the chapter's example", word(1, 2), word(3), machine(0,
			state(inf, [4]int{1, 3, 0, 1}), state(inf, [4]int{2, 0, 0, 2}), state(0))},
		{"the longer one is written", word(3), word(1, 2), machine(0,
			state(inf, [4]int{3, 1, 0, 1}), state(inf, [4]int{0, 2, 0, 2}), state(0))},
		{"both as long", word(1, top), word(top, 1), machine(0,
			state(inf, [4]int{1, top, 0, 1}), state(inf, [4]int{top, 1, 0, 2}), state(0))},
		{"nothing is read", nil, word(4, 4), machine(0,
			state(inf, [4]int{0, 4, 0, 1}), state(inf, [4]int{0, 4, 0, 2}), state(0))},
		{"nothing is written", word(4, 5, 4), word(), machine(0,
			state(inf, [4]int{4, 0, 0, 1}), state(inf, [4]int{5, 0, 0, 2}), state(inf, [4]int{4, 0, 0, 3}), state(0))},
	} {
		got, err := Cross(c.x, c.y)
		checkMade(t, c.what, got, err, c.want)
	}
}

// P12.2: words of all lengths, up to the longest ones.
func TestCrossOfAllLengths(t *testing.T) {
	for n := range api.MaxWord + 1 {
		for k := range api.MaxWord + 1 {
			x, y := long(n), long(k)
			slices.Reverse(y)
			want := sized(1+max(n, k), 0)
			want.States[max(n, k)].Final = 0
			for q := range max(n, k) {
				a := api.Arc{To: q + 1}
				if q < n {
					a.In = x[q]
				}
				if q < k {
					a.Out = y[q]
				}
				want.States[q].Arcs = []api.Arc{a}
			}
			got, err := Cross(x, y)
			checkMade(t, "Cross of "+strconv.Itoa(n)+" and "+strconv.Itoa(k), got, err, want)
		}
	}
}

// P12.2: Line is Cross of x and x.
func TestLine(t *testing.T) {
	got, err := Line(word(7, 1, 7))
	checkMade(t, "7, 1, 7", got, err, machine(0,
		state(inf, [4]int{7, 7, 0, 1}), state(inf, [4]int{1, 1, 0, 2}), state(inf, [4]int{7, 7, 0, 3}), state(0)))
	got, err = Line(nil)
	checkMade(t, "nothing", got, err, machine(0, state(0)))
	for _, x := range rightWords() {
		want, _ := Cross(x, x)
		got, err = Line(x)
		checkMade(t, "Line", got, err, want)
	}
}

type asked struct {
	what string
	m    api.Machine
	x, y []int
	want int
	err  api.Errno
}

func checkWeighed(t *testing.T, l []asked) {
	t.Helper()
	for _, c := range l {
		got, err := Weigh(c.m, c.x, c.y)
		checkCost(t, c.what, got, err, c.want, c.err)
	}
}

// P12.3: what is read and written, label by label.
func TestWeigh(t *testing.T) {
	cross := machine(0, state(inf, [4]int{1, 3, 0, 1}), state(inf, [4]int{2, 0, 0, 2}), state(0))
	loop := machine(0, state(1, [4]int{1, 2, 3, 0}))
	apart := machine(1, state(5), state(inf, [4]int{0, 2, 1, 2}), state(inf, [4]int{1, 0, 1, 0}))
	checkWeighed(t, []asked{
		{"simple", simple(), word(1), word(2), 3, api.OK},
		{"simple, nothing written", simple(), word(1), nil, inf, api.OK},
		{"simple, nothing read", simple(), nil, word(2), inf, api.OK},
		{"simple, nothing", simple(), nil, nil, inf, api.OK},
		{"simple, exchanged", simple(), word(2), word(1), inf, api.OK},
		{"simple, more is read", simple(), word(1, 1), word(2), inf, api.OK},
		{"simple, more is written", simple(), word(1), word(2, 2), inf, api.OK},
		{"cross", cross, word(1, 2), word(3), 0, api.OK},
		{"cross, only the beginning", cross, word(1), word(3), inf, api.OK},
		{"cross, only the end", cross, word(2), word(3), inf, api.OK},
		{"cross, the other way round", cross, word(2, 1), word(3), inf, api.OK},
		{"cross, another one", cross, word(1, 2), word(4), inf, api.OK},
		{"loop, not once", loop, nil, nil, 1, api.OK},
		{"loop, as often as may be", loop, slices.Repeat(word(1), 12), slices.Repeat(word(2), 12), 37, api.OK},
		{"loop, not as often", loop, slices.Repeat(word(1), 12), slices.Repeat(word(2), 11), inf, api.OK},
		{"one is written, then one is read", apart, word(1), word(2), 7, api.OK},
		{"the highest label", machine(0, state(2, [4]int{top, top, 4, 0})), word(top, top), word(top, top), 10, api.OK},
		{"no states", machine(-1), nil, nil, inf, api.OK},
		{"no Start", machine(-1, state(0)), nil, nil, inf, api.OK},
		{"no end", machine(0, state(inf)), nil, nil, inf, api.OK},
		{"an end that is not reached", machine(0, state(inf), state(0)), nil, nil, inf, api.OK},
		{"Start is the last one", machine(2, state(1), state(2), state(3)), nil, nil, 3, api.OK},
	})
}

// P12.3: of several paths the cheapest one.
func TestWeighTheCheapest(t *testing.T) {
	final := machine(0,
		state(inf, [4]int{1, 1, 5, 1}, [4]int{1, 1, 1, 2}), state(2), state(7))
	round := machine(0,
		state(inf, [4]int{1, 2, 9, 3}, [4]int{0, 0, 1, 1}), state(inf, [4]int{0, 2, 1, 2}),
		state(inf, [4]int{1, 0, 1, 3}), state(0))
	checkWeighed(t, []asked{
		{"the dearer end behind the cheaper arc", final, word(1), word(1), 7, api.OK},
		{"more arcs, but cheaper", round, word(1), word(2), 3, api.OK},
		{"two arcs alike", machine(0, state(0, [4]int{1, 1, 8, 0}, [4]int{1, 1, 6, 0})), word(1, 1), word(1, 1), 12, api.OK},
		{"ending at once is dearer", machine(0, state(9, [4]int{0, 0, 2, 1}), state(3)), nil, nil, 5, api.OK},
		{"ending at once is cheaper", machine(0, state(4, [4]int{0, 0, 2, 1}), state(3)), nil, nil, 4, api.OK},
		{"a later way to a place is cheaper", machine(0,
			state(inf, [4]int{0, 0, 4, 1}, [4]int{0, 0, 1, 2}), state(0), state(inf, [4]int{0, 0, 2, 1})), nil, nil, 3, api.OK},
	})
}

// P12.3: empty arcs lead round, for something and for nothing, with and without an end.
func TestEmptyRounds(t *testing.T) {
	for _, weight := range []int{0, 1, most} {
		ends := machine(0, state(inf, [4]int{0, 0, weight, 0}, [4]int{0, 0, 0, 1}), state(6, [4]int{0, 0, weight, 0}))
		never := machine(0, state(inf, [4]int{0, 0, weight, 1}), state(inf, [4]int{0, 0, weight, 0}, [4]int{1, 1, 0, 1}))
		writes := machine(0, state(6, [4]int{0, 1, weight, 0}))
		checkWeighed(t, []asked{
			{"a round that ends", ends, nil, nil, 6, api.OK},
			{"a round that never ends", never, nil, nil, inf, api.OK},
			{"a round that never ends, with words", never, word(1), word(1), inf, api.OK},
			{"a round that writes", writes, nil, nil, 6, api.OK},
		})
		got, err := Reads(writes, nil)
		checkCost(t, "Reads, a round that writes", got, err, 6, api.OK)
		got, err = Reads(never, word(1))
		checkCost(t, "Reads, a round that never ends", got, err, inf, api.OK)
	}
}

// bounds: machines that read 1 and write 1, by what their cheapest path costs.
func bounds() []asked {
	one := word(1)
	path := func(weight, final int) api.Machine {
		return machine(0, state(inf, [4]int{1, 1, weight, 1}), state(final))
	}
	two := func(weight, final int) api.Machine {
		return machine(0, state(inf, [4]int{1, 1, most, 1}, [4]int{1, 1, weight, 2}), state(most), state(final))
	}
	return []asked{
		{"as much as may be, by the arc", path(most, 0), one, one, most, api.OK},
		{"as much as may be, by the end", path(0, most), one, one, most, api.OK},
		{"as much as may be, by both", path(most-7, 7), one, one, most, api.OK},
		{"one more, by the arc", path(most, 1), one, one, 0, api.ErrOver},
		{"one more, by the end", path(1, most), one, one, 0, api.ErrOver},
		{"twice as much", path(most, most), one, one, 0, api.ErrOver},
		{"another one costs too much", two(most-1, 1), one, one, most, api.OK},
		{"both cost too much", two(most, 1), one, one, 0, api.ErrOver},
		{"an end that is none", path(most, inf), one, one, inf, api.OK},
		{"too much, but no such word", path(most, 1), word(2), word(2), inf, api.OK},
		{"too much on the way to no end", machine(0,
			state(inf, [4]int{1, 1, most, 1}), state(inf, [4]int{0, 0, most, 1})), one, one, inf, api.OK},
		{"too much on the way, another end", machine(0,
			state(inf, [4]int{1, 1, most, 1}, [4]int{1, 1, 4, 2}), state(inf, [4]int{0, 0, most, 2}), state(5)), one, one, 9, api.OK},
	}
}

// P12.3, P12.4: what is above MaxWeight is refused, also what is Inf by its number, but only of the cheapest path.
func TestBounds(t *testing.T) {
	checkWeighed(t, bounds())
	for _, c := range bounds() {
		got, err := Reads(c.m, c.x)
		checkCost(t, "Reads: "+c.what, got, err, c.want, c.err)
	}
	for _, c := range []struct{ n, weight, final, want int }{
		{60, 0, most, most}, {60, most / 60, 0, 59 * (most / 60)}, {51, most / 50, 0, most},
	} {
		checkWeighed(t, []asked{{"chain", chain(c.n, c.weight, c.final), nil, nil, c.want, api.OK}})
	}
	for _, m := range []api.Machine{chain(51, most/50, 1), chain(60, most, most), chain(60, most, 0)} {
		checkWeighed(t, []asked{{"chain that costs too much", m, nil, nil, 0, api.ErrOver}})
	}
}

// P12.3: the longest path that is needed, all of whose arcs cost the most: every label is one round through all states.
func TestLongestPath(t *testing.T) {
	for _, weight := range []int{0, 1000, most} {
		m := chain(api.MaxStates, weight, 0)
		last := &m.States[api.MaxStates-1]
		last.Arcs = []api.Arc{{In: 1, Weight: weight}, {Out: 1, Weight: weight}}
		x := slices.Repeat(word(1), api.MaxWord)
		arcs := 25*(api.MaxStates-1) + 24
		want, wantErr := weight*arcs, api.OK
		if want > most {
			want, wantErr = 0, api.ErrOver
		}
		checkWeighed(t, []asked{{"all round", m, x, x, want, wantErr}})
	}
}

// P12.4
func TestReads(t *testing.T) {
	cross := machine(0, state(inf, [4]int{1, 3, 0, 1}), state(inf, [4]int{2, 0, 0, 2}), state(0))
	either := machine(0, state(inf, [4]int{1, 1, 5, 1}, [4]int{1, 2, 4, 1}, [4]int{1, 0, 6, 1}), state(2))
	talks := machine(0, state(inf, [4]int{1, 2, 1, 1}), state(inf, [4]int{0, 3, 1, 2}), state(inf, [4]int{0, 4, 1, 1}, [4]int{0, 5, 1, 3}), state(0))
	for _, c := range []asked{
		{what: "simple", m: simple(), x: word(1), want: 3},
		{what: "simple, what it writes", m: simple(), x: word(2), want: inf},
		{what: "simple, nothing", m: simple(), want: inf},
		{what: "simple, more", m: simple(), x: word(1, 1), want: inf},
		{what: "cross", m: cross, x: word(1, 2)},
		{what: "cross, only the beginning", m: cross, x: word(1), want: inf},
		{what: "of all that is written the cheapest", m: either, x: word(1), want: 6},
		{what: "much is written", m: talks, x: word(1), want: 3},
		{what: "more is written than a word has", m: written(59, 1), x: nil, want: 59},
		{what: "no states", m: machine(-1), want: inf},
		{what: "no Start", m: machine(-1, state(0)), want: inf},
		{what: "no Start, a word", m: machine(-1, state(0, [4]int{1, 1, 0, 0})), x: word(1), want: inf},
		{what: "a long word", m: machine(0, state(1, [4]int{top, 7, 2, 0})), x: slices.Repeat(word(top), 12), want: 25},
	} {
		got, err := Reads(c.m, c.x)
		checkCost(t, c.what, got, err, c.want, c.err)
	}
}

// written: a chain of so many arcs, each of which writes 1.
func written(arcs, weight int) api.Machine {
	m := chain(arcs+1, weight, 0)
	for q := range arcs {
		m.States[q].Arcs[0].Out = 1
	}
	return m
}
