package stream

import (
	"math"
	"reflect"
	"slices"
	"testing"

	"tropica/api"
	"tropica/core"
)

const (
	most = api.MaxWeight
	inf  = api.Inf
	top  = api.MaxLabel
)

func machine(start int, states ...api.State) api.Machine {
	return api.Machine{Start: start, States: states}
}

func state(final int, arcs ...api.Arc) api.State {
	return api.State{Final: final, Arcs: arcs}
}

func arc(in, out, weight, to int) api.Arc {
	return api.Arc{In: in, Out: out, Weight: weight, To: to}
}

// on: reads nothing, writes this, for this weight.
func on(out, weight, to int) api.Arc { return arc(0, out, weight, to) }

func mark(q, weight int, out ...int) api.Mark {
	return api.Mark{State: q, Weight: weight, Out: out}
}

func run(fed int, marks ...api.Mark) api.Run {
	return api.Run{Fed: fed, Marks: marks}
}

// reader of the chapter's example: reads 1 and writes 2, for 5 in all.
func reader() api.Machine {
	return machine(0, state(inf, arc(1, 2, 3, 1)), state(2))
}

// loop: one state, that ends for final, and has these arcs.
func loop(final int, arcs ...api.Arc) api.Machine {
	return machine(0, state(final, arcs...))
}

// chain: n states, an arc that reads nothing and writes this, for this weight, to the next one each; the last one ends for nothing.
func chain(n, out, weight int) api.Machine {
	m := api.Machine{States: make([]api.State, n)}
	for q := range n - 1 {
		m.States[q] = state(inf, on(out, weight, q+1))
	}
	return m
}

// sameRun: as far as is told; a list without elements may be nil or not.
func sameRun(a, b api.Run) bool {
	return a.Fed == b.Fed && slices.EqualFunc(a.Marks, b.Marks, func(x, y api.Mark) bool {
		return x.State == y.State && x.Weight == y.Weight && slices.Equal(x.Out, y.Out)
	})
}

func checkBegin(t *testing.T, what string, m api.Machine, want api.Run, wantErr api.Errno) {
	t.Helper()
	if r, err := Begin(m); err != wantErr || !sameRun(r, want) {
		t.Errorf("%s: Begin of %v is %v, %v, want %v, %v", what, m, r, err, want, wantErr)
	}
}

func checkFeed(t *testing.T, what string, m api.Machine, r api.Run, labels []int, want api.Run, wantErr api.Errno) {
	t.Helper()
	if got, err := Feed(m, r, labels); err != wantErr || !sameRun(got, want) {
		t.Errorf("%s: Feed of %v and %v with %v is %v, %v, want %v, %v", what, m, r, labels, got, err, want, wantErr)
	}
}

func checkEnd(t *testing.T, what string, m api.Machine, r api.Run, out []int, cost int, wantErr api.Errno) {
	t.Helper()
	if y, c, err := End(m, r); err != wantErr || c != cost || !slices.Equal(y, out) {
		t.Errorf("%s: End of %v and %v is %v, %d, %v, want %v, %d, %v", what, m, r, y, c, err, out, cost, wantErr)
	}
}

// The chapter's examples.
func TestExamples(t *testing.T) {
	m := reader()
	checkBegin(t, "begun", m, run(0, mark(0, 0)), api.OK)
	checkFeed(t, "fed with 1", m, run(0, mark(0, 0)), []int{1}, run(1, mark(1, 3, 2)), api.OK)
	checkEnd(t, "fed with 1", m, run(1, mark(1, 3, 2)), []int{2}, 5, api.OK)
	checkEnd(t, "fed with nothing", m, run(0, mark(0, 0)), nil, 0, api.ErrNone)
	checkFeed(t, "fed with 1 1", m, run(0, mark(0, 0)), []int{1, 1}, run(2), api.OK)
	checkEnd(t, "fed with 1 1", m, run(2), nil, 0, api.ErrNone)
}

// P21.2 and P21.3
func TestBegin(t *testing.T) {
	for _, c := range []struct {
		what string
		m    api.Machine
		want []api.Mark
	}{
		{"no states", machine(-1), nil},
		{"no Start", machine(-1, state(0, on(1, 1, 0)), state(0)), nil},
		{"one state", machine(0, state(0)), []api.Mark{mark(0, 0)}},
		{"one state that can't end", machine(0, state(inf)), []api.Mark{mark(0, 0)}},
		{"Start is the last one", machine(2, state(0), state(0), state(0)), []api.Mark{mark(2, 0)}},
		{"what reads a label", machine(0, state(0, arc(1, 2, 3, 1), arc(top, 0, 0, 1)), state(0)), []api.Mark{mark(0, 0)}},
		{"what reads nothing", machine(0, state(0, on(2, 3, 1)), state(0)), []api.Mark{mark(0, 0), mark(1, 3, 2)}},
		{"what reads and writes nothing", machine(0, state(0, on(0, 3, 1)), state(0)), []api.Mark{mark(0, 0), mark(1, 3)}},
		{"again and again", chain(4, 7, 2), []api.Mark{mark(0, 0), mark(1, 2, 7), mark(2, 4, 7, 7), mark(3, 6, 7, 7, 7)}},
		{"in the order of states", machine(2, state(0), state(0, on(5, 1, 0)), state(0, on(6, 1, 1))), []api.Mark{mark(0, 2, 6, 5), mark(1, 1, 6), mark(2, 0)}},
		{"from Start on alone", machine(1, state(0, on(1, 1, 1)), state(0, on(2, 1, 2)), state(0)), []api.Mark{mark(1, 0), mark(2, 1, 2)}},
		{"Start's own mark is the best one", machine(0, state(0, on(1, 0, 1)), state(0, on(2, 0, 0))), []api.Mark{mark(0, 0), mark(1, 0, 1)}},
		{"round for nothing, nothing written", machine(0, state(0, on(0, 0, 1)), state(0, on(0, 0, 0))), []api.Mark{mark(0, 0), mark(1, 0)}},
		{"to itself", loop(0, on(0, 0, 0), on(1, 0, 0), on(0, 1, 0)), []api.Mark{mark(0, 0)}},
		{"a label is not copied to others", machine(0, state(0, on(1, 1, 1)), state(0, on(2, 1, 2), on(3, 1, 3)), state(0), state(0)), []api.Mark{mark(0, 0), mark(1, 1, 1), mark(2, 2, 1, 2), mark(3, 2, 1, 3)}},
		{"as much as may be", machine(0, state(0, on(top, most, 1)), state(most)), []api.Mark{mark(0, 0), mark(1, most, top)}},
		{"too much, but there is a cheaper one", machine(0, state(0, on(1, most, 1), on(2, 1, 2)), state(0, on(3, 1, 2)), state(0)), []api.Mark{mark(0, 0), mark(1, most, 1), mark(2, 1, 2)}},
		{"too much, but not from Start on", machine(1, state(0, on(1, most, 1)), state(0, arc(1, 1, most, 0))), []api.Mark{mark(1, 0)}},
	} {
		checkBegin(t, c.what, c.m, run(0, c.want...), api.OK)
	}
}

// P21.3
func TestBeginWithTooMuch(t *testing.T) {
	for _, c := range []struct {
		what string
		m    api.Machine
	}{
		{"by one", machine(0, state(0, on(1, most, 1)), state(0, on(1, 1, 2)), state(0))},
		{"by very much", chain(api.MaxStates, 0, most)},
		{"where it can't end", machine(0, state(inf, on(1, most, 1)), state(inf, on(1, 2, 2)), state(inf))},
		{"twice", machine(0, state(0, on(1, most, 1)), state(0, on(1, most, 2), on(2, most, 2)), state(0))},
	} {
		checkBegin(t, c.what, c.m, api.Run{}, api.ErrOver)
	}
}

// P21.2: two ways to state 2 each, of what reads nothing; the same ones, where a label is fed.
func TestBetterMarks(t *testing.T) {
	for _, c := range []struct {
		what string
		a, b []api.Arc
		want api.Mark
	}{
		{"less cost", []api.Arc{on(1, 2, 0)}, []api.Arc{on(1, 1, 0)}, mark(0, 1, 1)},
		{"less cost, though more is written", []api.Arc{on(0, 2, 0)}, []api.Arc{on(9, 1, 0), on(9, 0, 0)}, mark(0, 1, 9, 9)},
		{"less cost, though higher labels are written", []api.Arc{on(1, 2, 0)}, []api.Arc{on(9, 1, 0)}, mark(0, 1, 9)},
		{"less cost, in all", []api.Arc{on(1, 0, 0), on(1, 3, 0)}, []api.Arc{on(2, 1, 0), on(2, 1, 0)}, mark(0, 2, 2, 2)},
		{"fewer labels", []api.Arc{on(1, 1, 0), on(1, 1, 0)}, []api.Arc{on(9, 1, 0), on(0, 1, 0)}, mark(0, 2, 9)},
		{"no label", []api.Arc{on(1, 2, 0)}, []api.Arc{on(0, 2, 0)}, mark(0, 2)},
		{"the lower label", []api.Arc{on(2, 1, 0)}, []api.Arc{on(1, 1, 0)}, mark(0, 1, 1)},
		{"the lower label, a number of more digits", []api.Arc{on(10, 1, 0)}, []api.Arc{on(9, 1, 0)}, mark(0, 1, 9)},
		{"the lower first label", []api.Arc{on(2, 1, 0), on(1, 1, 0)}, []api.Arc{on(1, 1, 0), on(9, 1, 0)}, mark(0, 2, 1, 9)},
		{"the lower second label", []api.Arc{on(3, 1, 0), on(7, 0, 0), on(1, 1, 0)}, []api.Arc{on(3, 1, 0), on(6, 0, 0), on(2, 1, 0)}, mark(0, 2, 3, 6, 2)},
		{"the lower last label", []api.Arc{on(3, 1, 0), on(top, 1, 0)}, []api.Arc{on(3, 1, 0), on(top-1, 1, 0)}, mark(0, 2, 3, top-1)},
		{"the same, by more arcs", []api.Arc{on(3, 2, 0)}, []api.Arc{on(0, 1, 0), on(3, 0, 0), on(0, 1, 0)}, mark(0, 2, 3)},
		{"the same", []api.Arc{on(3, 2, 0)}, []api.Arc{on(3, 2, 0)}, mark(0, 2, 3)},
	} {
		for turn, ways := range [][][]api.Arc{{c.a, c.b}, {c.b, c.a}} {
			m, marks := forked(ways...)
			want := c.want
			want.State = 1
			r, err := Begin(m)
			if err != api.OK || len(r.Marks) != marks || !sameRun(run(0, r.Marks[1]), run(0, want)) {
				t.Errorf("%s, %d: Begin of %v is %v, %v, want among them %v", c.what, turn, m, r, err, want)
			}
			for i := range m.States[0].Arcs {
				m.States[0].Arcs[i].In = 5
			}
			r, err = Feed(m, run(0, mark(0, 0)), []int{5})
			if err != api.OK || len(r.Marks) != marks-1 || !sameRun(run(0, r.Marks[0]), run(0, want)) {
				t.Errorf("%s, %d: Feed of %v is %v, %v, want among them %v", c.what, turn, m, r, err, want)
			}
		}
	}
}

// forked: a machine whose ways all lead from 0 to 1, over states of their own, and how many states it has.
func forked(ways ...[]api.Arc) (api.Machine, int) {
	m := machine(0, state(0), state(0))
	for _, way := range ways {
		q := 0
		for i, a := range way {
			a.To = 1
			if i < len(way)-1 {
				a.To = len(m.States)
				m.States = append(m.States, state(0))
			}
			m.States[q].Arcs = append(m.States[q].Arcs, a)
			q = a.To
		}
	}
	return m, len(m.States)
}

// P21.4
func TestFeed(t *testing.T) {
	two := machine(0,
		state(0, arc(1, 5, 1, 0), arc(1, 6, 2, 1), arc(2, 7, 1, 1)),
		state(3, arc(1, 0, 0, 0), arc(2, 8, 9, 1), on(4, 4, 2)),
		state(0, arc(2, 9, 0, 2)))
	for _, c := range []struct {
		what   string
		m      api.Machine
		r      api.Run
		labels []int
		want   api.Run
	}{
		{"one label", two, run(0, mark(0, 0)), []int{1}, run(1, mark(0, 1, 5), mark(1, 2, 6), mark(2, 6, 6, 4))},
		{"another one", two, run(0, mark(0, 0)), []int{2}, run(1, mark(1, 1, 7), mark(2, 5, 7, 4))},
		{"from two marks", two, run(3, mark(0, 4, 1), mark(1, 2, 3)), []int{1}, run(4, mark(0, 2, 3), mark(1, 6, 1, 6), mark(2, 10, 1, 6, 4))},
		{"one better than what was closed", two, run(0, mark(1, 0), mark(2, 1, 1)), []int{2}, run(1, mark(1, 9, 8), mark(2, 1, 1, 9))},
		{"two labels", two, run(0, mark(0, 0)), []int{2, 2}, run(2, mark(1, 10, 7, 8), mark(2, 5, 7, 4, 9))},
		{"a label that nothing reads", two, run(0, mark(0, 0)), []int{3}, run(1)},
		{"labels that nothing reads any more", two, run(0, mark(0, 0)), []int{3, 1, 2}, run(3)},
		{"the highest label", loop(0, arc(top, top, 2, 0)), run(1, mark(0, 1, top)), []int{top, top}, run(3, mark(0, 5, top, top, top))},
		{"no marks", two, run(2), []int{1, 2}, run(4)},
		{"no labels", two, run(7, mark(0, 3, 1), mark(2, 9)), nil, run(7, mark(0, 3, 1), mark(2, 9))},
		{"no labels, an empty list", two, run(7, mark(0, 3, 1), mark(2, 9)), []int{}, run(7, mark(0, 3, 1), mark(2, 9))},
		{"no labels, what is not closed stays", two, run(1, mark(1, 0)), nil, run(1, mark(1, 0))},
		{"what is not closed stays behind", two, run(1, mark(1, 0)), []int{1}, run(2, mark(0, 0))},
		{"no labels and no marks", two, run(12), nil, run(12)},
		{"no labels, no states", machine(-1), run(5), nil, run(5)},
		{"no states", machine(-1), run(5), []int{1}, run(6)},
		{"no Start, but marks", machine(-1, state(0, arc(1, 2, 3, 0))), run(0, mark(0, 1)), []int{1}, run(1, mark(0, 4, 2))},
		{"what reads nothing does not read 0", loop(0, on(3, 1, 0)), run(0, mark(0, 1)), []int{1}, run(1)},
		{"as many as may be", loop(0, arc(1, 2, 3, 0)), run(0, mark(0, 0)), slices.Repeat([]int{1}, 12), run(12, mark(0, 36, slices.Repeat([]int{2}, 12)...))},
		{"up to as many as may be", loop(0, arc(1, 2, 3, 0)), run(11, mark(0, 0)), []int{1}, run(12, mark(0, 3, 2))},
		{"as much as may be", loop(0, arc(1, 2, 3, 0)), run(0, mark(0, most-6)), []int{1, 1}, run(2, mark(0, most, 2, 2))},
		{"too much is not kept", machine(0, state(0, arc(1, 1, most, 1), arc(1, 2, 1, 1)), state(0)), run(0, mark(0, 1)), []int{1}, run(1, mark(1, 2, 2))},
		{"too much is not kept, where it is closed", machine(0, state(0, arc(1, 1, most, 1), arc(1, 2, 1, 2)), state(0), state(0, on(3, 1, 1))), run(0, mark(0, 1)), []int{1}, run(1, mark(1, 3, 2, 3), mark(2, 2, 2))},
		{"too much, where it is not fed", machine(0, state(0, arc(1, 1, most, 0), arc(2, 2, 1, 0))), run(0, mark(0, most-1)), []int{2}, run(1, mark(0, most, 2))},
	} {
		checkFeed(t, c.what, c.m, c.r, c.labels, c.want, api.OK)
	}
}

// P21.4
func TestFeedRefuses(t *testing.T) {
	m := loop(0, arc(1, 2, 3, 0), arc(2, 2, most, 0))
	late := machine(0, state(0, arc(1, 1, most, 1)), state(0, on(0, 1, 2)), state(0))
	begun := run(0, mark(0, 0))
	dear := run(0, mark(0, most))
	ones := func(n int) []int { return slices.Repeat([]int{1}, n) }
	for _, c := range []struct {
		what   string
		m      api.Machine
		r      api.Run
		labels []int
		want   api.Errno
	}{
		{"one more than may be", m, begun, ones(13), api.ErrFull},
		{"very many", m, begun, ones(5000), api.ErrFull},
		{"one more, fed before", m, run(12, mark(0, 0)), ones(1), api.ErrFull},
		{"one more in all", m, run(7, mark(0, 0)), ones(6), api.ErrFull},
		{"one more, no marks", m, run(12), ones(1), api.ErrFull},
		{"one more, no states", machine(-1), run(12), ones(1), api.ErrFull},
		{"one more, and none is a label", m, begun, make([]int, 13), api.ErrFull},
		{"one more, and too much", m, dear, ones(13), api.ErrFull},
		{"0 is no label", m, begun, []int{0}, api.ErrRange},
		{"below 0", m, begun, []int{-1}, api.ErrRange},
		{"above the highest one", m, begun, []int{top + 1}, api.ErrRange},
		{"the lowest number", m, begun, []int{math.MinInt}, api.ErrRange},
		{"the highest number", m, begun, []int{math.MaxInt}, api.ErrRange},
		{"behind a label", m, begun, []int{1, 1, 0}, api.ErrRange},
		{"no label, no marks", m, run(0), []int{0}, api.ErrRange},
		{"no label, as many as may be", m, begun, make([]int, 12), api.ErrRange},
		{"no label behind too much", m, dear, []int{1, 0}, api.ErrRange},
		{"too much, by one", m, run(0, mark(0, 1)), []int{2}, api.ErrOver},
		{"too much, by two", m, run(0, mark(0, 2)), []int{2}, api.ErrOver},
		{"too much, twice", m, dear, []int{2}, api.ErrOver},
		{"too much, behind the second one", m, begun, []int{1, 2}, api.ErrOver},
		{"too much, that leads nowhere", m, begun, []int{1, 2, 3}, api.ErrOver},
		{"too much, where it is closed", late, begun, []int{1}, api.ErrOver},
		{"too much, where it can't end", loop(inf, arc(1, 2, 3, 0)), dear, []int{1}, api.ErrOver},
	} {
		checkFeed(t, c.what, c.m, c.r, c.labels, api.Run{}, c.want)
	}
}

// P21.5
func TestEnd(t *testing.T) {
	m := machine(0, state(4), state(inf), state(2), state(0), state(inf))
	for _, c := range []struct {
		what  string
		marks []api.Mark
		out   []int
		cost  int
	}{
		{"its Final is put to it", []api.Mark{mark(0, 3, 1, 2)}, []int{1, 2}, 7},
		{"nothing is written", []api.Mark{mark(0, 0)}, nil, 4},
		{"another one can't end", []api.Mark{mark(0, 3, 1), mark(1, 0), mark(4, 0)}, []int{1}, 7},
		{"the first one costs less", []api.Mark{mark(0, 1, 1), mark(2, 5, 2)}, []int{1}, 5},
		{"the last one costs less", []api.Mark{mark(0, 3, 1), mark(2, 4, 2)}, []int{2}, 6},
		{"by its Final alone", []api.Mark{mark(0, 3, 1), mark(2, 3, 2), mark(3, 3, 3)}, []int{3}, 3},
		{"less cost, though more is written", []api.Mark{mark(0, 3), mark(2, 4, 9, 9, 9)}, []int{9, 9, 9}, 6},
		{"fewer labels, the first one", []api.Mark{mark(0, 3, 9), mark(2, 5, 1, 1)}, []int{9}, 7},
		{"fewer labels, the last one", []api.Mark{mark(0, 3, 1, 1), mark(2, 5, 9)}, []int{9}, 7},
		{"lower labels, the first one", []api.Mark{mark(0, 3, 1, 2, 9), mark(2, 5, 1, 3, 1)}, []int{1, 2, 9}, 7},
		{"lower labels, the last one", []api.Mark{mark(0, 3, 1, 3, 1), mark(3, 7, 1, 2, 9)}, []int{1, 2, 9}, 7},
		{"as good", []api.Mark{mark(0, 3, 5), mark(2, 5, 5), mark(3, 7, 5)}, []int{5}, 7},
		{"as much as may be", []api.Mark{mark(2, most-2, top)}, []int{top}, most},
		{"as much as may be, for nothing", []api.Mark{mark(3, most)}, nil, most},
		{"too much, but there is a cheaper one", []api.Mark{mark(0, most), mark(2, most), mark(3, most, 7)}, []int{7}, most},
	} {
		checkEnd(t, c.what, m, run(3, c.marks...), c.out, c.cost, api.OK)
	}
	for _, c := range []struct {
		what  string
		marks []api.Mark
		want  api.Errno
	}{
		{"no marks", nil, api.ErrNone},
		{"none that can end", []api.Mark{mark(1, 0, 1), mark(4, most)}, api.ErrNone},
		{"too much, by one", []api.Mark{mark(2, most-1, 1)}, api.ErrOver},
		{"too much, by two", []api.Mark{mark(2, most)}, api.ErrOver},
		{"too much, all of them", []api.Mark{mark(0, most), mark(1, 0), mark(2, most)}, api.ErrOver},
	} {
		checkEnd(t, c.what, m, run(3, c.marks...), nil, 0, c.want)
	}
	checkEnd(t, "too much, twice", loop(most), run(0, mark(0, most)), nil, 0, api.ErrOver)
	checkEnd(t, "no states", machine(-1), run(0), nil, 0, api.ErrNone)
	checkEnd(t, "no Start, but marks", machine(-1, state(1)), run(0, mark(0, 1, 2)), []int{2}, 2, api.OK)
	checkEnd(t, "what is not closed stays", machine(0, state(9, on(1, 1, 1)), state(0)), run(0, mark(0, 0)), nil, 9, api.OK)
}

// P21.1
func TestRunsThatMayNotBe(t *testing.T) {
	m := machine(0, state(0, arc(1, 2, 3, 1)), state(0), state(inf))
	long := slices.Repeat([]int{top}, api.MaxOut)
	for what, r := range map[string]api.Run{
		"Fed below 0":                 run(-1, mark(0, 0)),
		"Fed above MaxFeed":           run(13, mark(0, 0)),
		"Fed above MaxFeed, no marks": run(13),
		"the lowest Fed":              run(math.MinInt),
		"the highest Fed":             run(math.MaxInt),
		"a state below 0":             run(0, mark(-1, 0)),
		"a state too many":            run(0, mark(3, 0)),
		"a state too many, the last":  run(0, mark(0, 0), mark(3, 0)),
		"the lowest state":            run(0, mark(math.MinInt, 0)),
		"the highest state":           run(0, mark(math.MaxInt, 0)),
		"a state below 0, the last":   run(0, mark(0, 0), mark(-1, 0)),
		"a state twice":               run(0, mark(1, 0), mark(1, 0)),
		"a state twice, two others":   run(0, mark(0, 0), mark(1, 5), mark(1, 7), mark(2, 0)),
		"not in order":                run(0, mark(1, 0), mark(0, 0)),
		"not in order, the last":      run(0, mark(0, 0), mark(2, 0), mark(1, 0)),
		"a Weight below 0":            run(0, mark(0, -1)),
		"a Weight that is Inf":        run(0, mark(0, inf)),
		"a Weight that is Inf, last":  run(0, mark(0, 0), mark(2, inf)),
		"the lowest Weight":           run(0, mark(0, math.MinInt)),
		"the highest Weight":          run(0, mark(0, math.MaxInt)),
		"Out too long":                run(0, mark(0, 0, append(slices.Clone(long), 1)...)),
		"Out too long, the last":      run(0, mark(0, 0), mark(1, 0, append(slices.Clone(long), 1)...)),
		"a label 0":                   run(0, mark(0, 0, 0)),
		"a label below 0":             run(0, mark(0, 0, -1)),
		"a label above MaxLabel":      run(0, mark(0, 0, top+1)),
		"the last label 0":            run(0, mark(0, 0, 1), mark(1, 0, 1, 2, 0)),
		"the lowest label":            run(0, mark(0, 0, math.MinInt)),
		"the highest label":           run(0, mark(0, 0, math.MaxInt)),
	} {
		for _, labels := range [][]int{nil, {1}, {0}, make([]int, 13)} {
			checkFeed(t, what, m, r, labels, api.Run{}, api.ErrState)
		}
		checkEnd(t, what, m, r, nil, 0, api.ErrState)
	}
	may := run(12, mark(0, most, long...), mark(1, 0, 1), mark(2, most))
	checkFeed(t, "all that may be", m, may, nil, may, api.OK)
	checkEnd(t, "all that may be", m, may, []int{1}, 0, api.OK)
	checkFeed(t, "as long as may be, and one more", m, run(0, mark(0, 0, long...)), []int{1}, run(1, mark(1, 3, append(slices.Clone(long), 2)...)), api.OK)
	checkFeed(t, "for a machine without states", machine(-1), run(0, mark(0, 0)), nil, api.Run{}, api.ErrState)
	checkEnd(t, "for a machine without states", machine(-1), run(0, mark(0, 0)), nil, 0, api.ErrState)
	checkEnd(t, "ahead of there being none", loop(inf), run(13), nil, 0, api.ErrState)
	checkEnd(t, "ahead of too much", loop(most), run(13, mark(0, most)), nil, 0, api.ErrState)
}

// wrongMachines: none of them is right.
func wrongMachines() []api.Machine {
	l := []api.Machine{{}, {Start: 1}, {Start: -2}, chain(api.MaxStates+1, 0, 0), loop(0, make([]api.Arc, api.MaxArcs+1)...)}
	for _, n := range []int{math.MinInt, math.MaxInt, -2, inf + 1} {
		l = append(l, machine(n, state(0)), machine(0, state(n)), loop(0, arc(1, 2, n, 0)), loop(0, arc(1, 2, 0, n)),
			loop(0, arc(n, 0, 0, 0)), loop(0, arc(0, n, 0, 0)))
	}
	return append(l,
		loop(0, arc(top+1, 0, 0, 0)),
		loop(0, arc(0, top+1, 0, 0)),
		loop(0, arc(1, 2, inf, 0)),
		loop(0, arc(1, 2, 0, 1)),
		loop(0, arc(1, 2, 0, -1)),
		machine(3, chain(3, 0, most).States...),
		machine(-2, chain(3, 0, most).States...))
}

// P4.1: a machine that is not right is refused, ahead of all else.
func TestMachinesThatAreNotRight(t *testing.T) {
	for _, m := range wrongMachines() {
		want := core.Check(m)
		if want == api.OK {
			t.Errorf("%v is right", m)
		}
		checkBegin(t, "not right", m, api.Run{}, want)
		for _, r := range []api.Run{{}, run(0, mark(0, 0)), run(13), run(0, mark(99, -1, 0)), run(0, mark(math.MinInt, 0))} {
			for _, labels := range [][]int{nil, {1}, {0}, make([]int, 13)} {
				checkFeed(t, "not right", m, r, labels, api.Run{}, want)
			}
			checkEnd(t, "not right", m, r, nil, 0, want)
		}
	}
}

// What is handed in stays as it is, the spare room of its lists too, and does not count.
func TestWhatIsHandedInStays(t *testing.T) {
	wrong := arc(-1, -1, -1, -1)
	arcs := []api.Arc{arc(1, 3, 3, 1), on(5, 1, 1), on(2, 5, 0), wrong, wrong}
	states := []api.State{{Final: inf, Arcs: arcs[:2]}, {Final: 4, Arcs: arcs[2:3]}, {Final: -1, Arcs: arcs[3:]}, {Final: -1}}
	out := []int{7, 8, -1, -1, -1, -1, -1, -1}
	marks := []api.Mark{{State: 0, Weight: 2, Out: out[:1]}, {State: 1, Weight: 9, Out: out[:2]}, {State: -1, Out: out}}
	labels := []int{1, -1, -1}
	kept := []any{slices.Clone(arcs), slices.Clone(states), slices.Clone(out), slices.Clone(marks), slices.Clone(labels)}
	m, r := api.Machine{States: states[:2]}, api.Run{Fed: 1, Marks: marks[:2]}
	checkBegin(t, "handed in", m, run(0, mark(0, 0), mark(1, 1, 5)), api.OK)
	checkFeed(t, "handed in", m, r, labels[:1], run(2, mark(0, 10, 7, 3, 2), mark(1, 5, 7, 3)), api.OK)
	checkFeed(t, "handed in, no labels", m, r, labels[:0], run(1, mark(0, 2, 7), mark(1, 9, 7, 8)), api.OK)
	checkEnd(t, "handed in", m, r, []int{7, 8}, 13, api.OK)
	if now := []any{arcs, states, out, marks, labels}; !reflect.DeepEqual(now, kept) {
		t.Errorf("what was handed in became %v, it was %v", now, kept)
	}
}

// spoil a run, the spare room of its lists too.
func spoil(r api.Run) {
	marks := r.Marks[:cap(r.Marks)]
	for i := range marks {
		spoilWord(marks[i].Out)
		marks[i] = mark(-7, -7)
	}
}

func spoilWord(list []int) {
	list = list[:cap(list)]
	for i := range list {
		list[i] = -7
	}
}

// An answer is new memory: what is written over it is seen nowhere else, its lists share none, and nothing is kept.
func TestAnswersAreNewMemory(t *testing.T) {
	m := machine(0, state(1, arc(1, 2, 3, 1), on(0, 1, 2)), state(inf, on(0, 0, 0), arc(2, 0, 1, 2), on(9, 0, 2)), state(3, on(0, 5, 1)))
	for _, before := range []api.Machine{reader(), chain(60, 1, most), {Start: 7}} {
		Begin(before)
		first, _ := Begin(m)
		Feed(before, first, []int{1})
		fed, _ := Feed(m, first, []int{1})
		same, _ := Feed(m, fed, nil)
		on, _ := Feed(m, fed, []int{2})
		y, _, _ := End(m, fed)
		for i := range same.Marks {
			spoilWord(same.Marks[i].Out)
			for _, k := range same.Marks[i+1:] {
				if !slices.Equal(k.Out, fed.Marks[k.State].Out) {
					t.Errorf("what a mark wrote became %v", k.Out)
				}
			}
		}
		spoil(same)
		spoil(on)
		spoilWord(y)
		spoil(first)
		wantFed := run(1, mark(0, 3, 2), mark(1, 3, 2), mark(2, 3, 2, 9))
		if !sameRun(fed, wantFed) {
			t.Errorf("fed is %v, want %v", fed, wantFed)
		}
		checkEnd(t, "a later answer", m, fed, []int{2}, 4, api.OK)
		checkFeed(t, "a later answer", m, fed, nil, wantFed, api.OK)
		checkFeed(t, "a later answer", m, fed, []int{2}, run(2, mark(0, 9, 2), mark(1, 9, 2), mark(2, 4, 2)), api.OK)
		checkBegin(t, "a later answer", m, run(0, mark(0, 0), mark(1, 6), mark(2, 1)), api.OK)
	}
}
