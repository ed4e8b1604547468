package empties

import (
	"math"
	"slices"
	"testing"

	"tropica/api"
	"tropica/core"
	"tropica/rational"
)

const (
	most = api.MaxWeight
	inf  = api.Inf
	top  = api.MaxLabel
)

func machine(start int, states ...api.State) api.Machine {
	return api.Machine{Start: start, States: states}
}

func state(final int, arcs ...api.Arc) api.State {
	return api.State{Final: final, Arcs: arcs}
}

func arc(in, out, weight, to int) api.Arc {
	return api.Arc{In: in, Out: out, Weight: weight, To: to}
}

// hop: an empty arc.
func hop(weight, to int) api.Arc { return api.Arc{Weight: weight, To: to} }

// chain: n states, an empty arc of this weight to the next one each; the last one has these arcs and ends for final.
func chain(n, weight, final int, arcs ...api.Arc) api.Machine {
	m := api.Machine{States: make([]api.State, n)}
	for q := range n - 1 {
		m.States[q] = state(inf, hop(weight, q+1))
	}
	m.States[n-1] = state(final, arcs...)
	return m
}

// spread: so many arcs to one state, no two of them alike, in order.
func spread(n, to int) []api.Arc {
	l := make([]api.Arc, n)
	for i := range l {
		l[i] = arc(1+i, 7, i, to)
	}
	return l
}

// equal: an empty list may be nil or not.
func equal(a, b api.Machine) bool {
	return a.Start == b.Start && slices.EqualFunc(a.States, b.States, func(s, r api.State) bool {
		return s.Final == r.Final && slices.Equal(s.Arcs, r.Arcs)
	})
}

func checkMade(t *testing.T, what string, m, want api.Machine) {
	t.Helper()
	if got, err := Remove(m); err != api.OK || !equal(got, want) {
		t.Errorf("%s: %v became %v, %v, want %v", what, m, got, err, want)
	}
}

func checkRefused(t *testing.T, what string, m api.Machine, want api.Errno) {
	t.Helper()
	if got, err := Remove(m); err != want || got.Start != 0 || len(got.States) != 0 {
		t.Errorf("%s: %v became %v, %v, want nothing, %v", what, m, got, err, want)
	}
}

type example struct {
	what    string
	m, want api.Machine
}

func checkAll(t *testing.T, l []example) {
	t.Helper()
	for _, c := range l {
		checkMade(t, c.what, c.m, c.want)
	}
}

// P14.1: the chapter's example.
func TestExample(t *testing.T) {
	x := arc(5, 6, 3, 2)
	checkMade(t, "example",
		machine(0, state(inf, hop(2, 1)), state(inf, x), state(0)),
		machine(0, state(inf, arc(5, 6, 5, 2)), state(inf, x), state(0)))
}

// P14.1: the example of the whole: the star of a machine that reads 1 and writes 2 for 3.
func TestStar(t *testing.T) {
	star, err := rational.Star(machine(0, state(inf, arc(1, 2, 3, 1)), state(0)))
	if err != api.OK {
		t.Fatal(err)
	}
	x := arc(1, 2, 3, 2)
	checkMade(t, "star", star, machine(0, state(0, x), state(inf, x), state(0, x)))
}

// P14.1: machines that have no empty arcs.
func TestNothingToRemove(t *testing.T) {
	x, y := arc(1, 1, 3, 1), arc(2, 1, 4, 0)
	checkAll(t, []example{
		{"no states", machine(-1), machine(-1)},
		{"no states, not nil", api.Machine{Start: -1, States: []api.State{}}, machine(-1)},
		{"one state", machine(0, state(5)), machine(0, state(5))},
		{"one state, no arcs, not nil", machine(0, state(5, []api.Arc{}...)), machine(0, state(5))},
		{"one state that can't end", machine(0, state(inf)), machine(0, state(inf))},
		{"one state that ends for the most", machine(0, state(most)), machine(0, state(most))},
		{"no Start", machine(-1, state(0, x), state(1, y)), machine(-1, state(0, x), state(1, y))},
		{"Start is the last one", machine(1, state(0, x), state(1, y)), machine(1, state(0, x), state(1, y))},
		{"it reads nothing", machine(0, state(0, arc(0, 1, 2, 0))), machine(0, state(0, arc(0, 1, 2, 0)))},
		{"it writes nothing", machine(0, state(0, arc(1, 0, 2, 0))), machine(0, state(0, arc(1, 0, 2, 0)))},
		{"the highest arc", machine(0, state(0, arc(top, top, most, 0))), machine(0, state(0, arc(top, top, most, 0)))},
		{"for nothing", machine(0, state(0, arc(1, 1, 0, 0))), machine(0, state(0, arc(1, 1, 0, 0)))},
		{"what can't be reached stays", machine(0, state(0), state(inf, x)), machine(0, state(0), state(inf, x))},
		{"as many states as may be", chain(api.MaxStates, most, inf), machine(0, slices.Repeat([]api.State{state(inf)}, api.MaxStates)...)},
		{"as many arcs as may be", machine(0, state(0, spread(400, 0)...)), machine(0, state(0, spread(400, 0)...))},
	})
}

// P14.1: what a hop is.
func TestHops(t *testing.T) {
	at := func(weight int) api.Arc { return arc(5, 6, weight, 0) }
	end := state(inf, at(1))
	checkAll(t, []example{
		{"none", machine(0, state(0, hop(0, 0))), machine(0, state(0))},
		{"to itself, which costs more than 0", machine(0, state(7, hop(3, 0), at(1))), machine(0, state(7, at(1)))},
		{"for nothing", machine(0, state(inf, hop(0, 1)), end), machine(0, state(inf, at(1)), end)},
		{"along two", machine(0, state(inf, hop(2, 1)), state(inf, hop(3, 2)), end), machine(0, state(inf, at(6)), state(inf, at(4)), end)},
		{"to lower numbers", machine(2, end, state(inf, hop(2, 0)), state(inf, hop(3, 1))), machine(2, end, state(inf, at(3)), state(inf, at(6)))},
		{"one way alone", machine(0, state(inf), state(inf, hop(2, 0), at(1))), machine(0, state(inf), state(inf, at(1)))},
		{"of two arcs the cheaper one first", machine(0, state(inf, hop(2, 1), hop(9, 1)), end), machine(0, state(inf, at(3)), end)},
		{"of two arcs the dearer one first", machine(0, state(inf, hop(9, 1), hop(2, 1)), end), machine(0, state(inf, at(3)), end)},
		{"a way round is cheaper", machine(0, state(inf, hop(9, 2), hop(2, 1)), state(inf, hop(3, 2)), end), machine(0, state(inf, at(6)), state(inf, at(4)), end)},
		{"a way round is dearer", machine(0, state(inf, hop(4, 2), hop(2, 1)), state(inf, hop(3, 2)), end), machine(0, state(inf, at(5)), state(inf, at(4)), end)},
		{"a cycle", machine(0, state(inf, hop(2, 1)), state(inf, hop(3, 2)), state(inf, hop(4, 0), at(1))), machine(0, state(inf, at(6)), state(inf, at(4)), end)},
		{"a cycle for nothing", machine(0, state(3, hop(0, 1)), state(inf, hop(0, 2)), state(5, hop(0, 0), at(1))), machine(0, state(3, at(1)), state(3, at(1)), state(3, at(1)))},
		{"not along what is read", machine(0, state(inf, arc(1, 0, 2, 1)), end), machine(0, state(inf, arc(1, 0, 2, 1)), end)},
		{"not along what is written", machine(0, state(inf, arc(0, 1, 2, 1)), end), machine(0, state(inf, arc(0, 1, 2, 1)), end)},
		{"no Start", machine(-1, state(inf, hop(2, 1)), end), machine(-1, state(inf, at(3)), end)},
		{"Start is elsewhere", machine(1, state(inf, hop(2, 1)), end), machine(1, state(inf, at(3)), end)},
	})
}

// P14.1: behind an arc that is not empty the empty ones of its To are not gone: its To has what they led to.
func TestArcsLeadWhereTheyLed(t *testing.T) {
	x, y := arc(1, 2, 3, 1), arc(2, 1, 4, 2)
	checkMade(t, "a hop behind",
		machine(0, state(inf, x), state(inf, hop(5, 2)), state(6)),
		machine(0, state(inf, x), state(11), state(6)))
	checkMade(t, "hops ahead and behind",
		machine(0, state(inf, hop(1, 1)), state(inf, x, hop(2, 2)), state(7, y)),
		machine(0, state(10, arc(1, 2, 4, 1), arc(2, 1, 7, 2)), state(9, x, arc(2, 1, 6, 2)), state(7, y)))
}

// P14.1: of arcs that are alike in In, Out and To only the lightest one is left.
func TestOnlyTheLightestIsLeft(t *testing.T) {
	one := func(arcs ...api.Arc) api.Machine { return machine(0, state(0, arcs...), state(0), state(0)) }
	checkAll(t, []example{
		{"its own, no empty ones", one(arc(1, 2, 5, 0), arc(1, 2, 3, 0), arc(1, 2, 4, 0)), one(arc(1, 2, 3, 0))},
		{"its own, the same", one(arc(1, 2, 5, 0), arc(1, 2, 5, 0)), one(arc(1, 2, 5, 0))},
		{"other In", one(arc(1, 2, 5, 0), arc(2, 2, 3, 0)), one(arc(1, 2, 5, 0), arc(2, 2, 3, 0))},
		{"other Out", one(arc(1, 2, 5, 0), arc(1, 3, 3, 0)), one(arc(1, 2, 5, 0), arc(1, 3, 3, 0))},
		{"other To", one(arc(1, 2, 5, 0), arc(1, 2, 3, 1)), one(arc(1, 2, 5, 0), arc(1, 2, 3, 1))},
		{"labels the other way round", one(arc(1, 2, 5, 0), arc(2, 1, 3, 0)), one(arc(1, 2, 5, 0), arc(2, 1, 3, 0))},
		{"Out and To the other way round", one(arc(1, 2, 5, 1), arc(1, 1, 3, 2)), one(arc(1, 1, 3, 2), arc(1, 2, 5, 1))},
	})
	for own, left := range map[int]int{0: 0, 4: 4, 5: 5, 6: 6, 7: 6, most: 6} {
		checkMade(t, "its own and one behind a hop",
			machine(0, state(0, hop(2, 1), arc(1, 1, own, 2)), state(0, arc(1, 1, 4, 2)), state(0)),
			machine(0, state(0, arc(1, 1, left, 2)), state(0, arc(1, 1, 4, 2)), state(0)))
	}
	checkMade(t, "of two hops",
		machine(0, state(0, hop(1, 1), hop(5, 2)), state(0, arc(1, 1, 9, 2)), state(0, arc(1, 1, 4, 2))),
		machine(0, state(0, arc(1, 1, 9, 2)), state(0, arc(1, 1, 9, 2)), state(0, arc(1, 1, 4, 2))))
}

// P14.1, P4.4: the arcs stand in order, those of one state that come from several ones, too.
func TestArcsStandInOrder(t *testing.T) {
	a, b, c, d, e := arc(0, 2, 9, 1), arc(1, 0, 8, 0), arc(1, 1, 7, 0), arc(1, 1, 6, 1), arc(2, 0, 5, 0)
	own := machine(0, state(0, e, d, c, b, a), state(0))
	checkMade(t, "its own, no empty ones", own, machine(0, state(0, a, b, c, d, e), state(0)))
	checkMade(t, "of others",
		machine(0, state(0, e, b, hop(0, 1)), state(0, d, a, c)),
		machine(0, state(0, a, b, c, d, e), state(0, a, c, d)))
	checkMade(t, "as numbers", machine(0, state(0, arc(10, 1, 0, 0), arc(9, 10, 0, 0), arc(9, 9, 0, 0))),
		machine(0, state(0, arc(9, 9, 0, 0), arc(9, 10, 0, 0), arc(10, 1, 0, 0))))
}

// P14.1: Finals.
func TestFinals(t *testing.T) {
	for _, c := range []struct {
		what  string
		m     api.Machine
		final int
	}{
		{"its own is less", machine(0, state(3, hop(2, 1)), state(2)), 3},
		{"its own is more", machine(0, state(5, hop(2, 1)), state(2)), 4},
		{"its own is 0", machine(0, state(0, hop(0, 1)), state(2)), 0},
		{"its own is none", machine(0, state(inf, hop(2, 1)), state(2)), 4},
		{"the other one's is none", machine(0, state(7, hop(0, 1)), state(inf)), 7},
		{"both are none", machine(0, state(inf, hop(0, 1)), state(inf)), inf},
		{"no hop there", machine(0, state(7, arc(1, 1, 0, 1)), state(0, hop(0, 0))), 7},
		{"the dearer hop ends cheaper", machine(0, state(inf, hop(1, 1), hop(4, 2)), state(9), state(2)), 6},
		{"the cheaper hop ends cheaper", machine(0, state(inf, hop(1, 1), hop(4, 2)), state(4), state(2)), 5},
		{"along two", machine(0, state(inf, hop(1, 1)), state(inf, hop(2, 2)), state(4)), 7},
		{"as much as may be", machine(0, state(inf, hop(most, 1)), state(0)), most},
		{"as much as may be, a Final", machine(0, state(inf, hop(0, 1)), state(most)), most},
		{"as much as may be, in two", machine(0, state(inf, hop(1, 1)), state(most-1)), most},
		{"too much, but its own is less", machine(0, state(most, hop(most, 1)), state(most)), most},
		{"too much, but another one is less", machine(0, state(inf, hop(most, 1), hop(3, 2)), state(most), state(4)), 7},
	} {
		got, err := Remove(c.m)
		if err != api.OK || len(got.States) != len(c.m.States) || got.States[0].Final != c.final {
			t.Errorf("%s: %v, %v, want the Final %d", c.what, got, err, c.final)
		}
	}
}

// P14.1: ErrOver
func TestTooMuch(t *testing.T) {
	for _, c := range []struct {
		what string
		m    api.Machine
	}{
		{"a Final, by one", machine(0, state(inf, hop(1, 1)), state(most))},
		{"a Final, by one, the hop counts", machine(0, state(inf, hop(most, 1)), state(1))},
		{"a Final, by two", machine(0, state(inf, hop(2, 1)), state(most))},
		{"a Final, by one, the lesser of two", machine(0, state(inf, hop(1, 1), hop(2, 1)), state(most))},
		{"a Final, by one, along two hops", machine(0, state(inf, hop(most, 1)), state(inf, hop(1, 2)), state(0))},
		{"a Final, by very much", chain(api.MaxStates, most, most)},
		{"a Final of what can't be reached", machine(0, state(0), state(inf, hop(1, 2)), state(most))},
		{"a Final, no Start", machine(-1, state(inf, hop(1, 1)), state(most))},
		{"a Weight, by one", machine(0, state(0, hop(1, 1)), state(0, arc(1, 1, most, 0)))},
		{"a Weight, by one, the hop counts", machine(0, state(0, hop(most, 1)), state(0, arc(1, 1, 1, 0)))},
		{"a Weight, by two", machine(0, state(0, hop(2, 1)), state(0, arc(1, 1, most, 0)))},
		{"a Weight, by one, the lightest of three", machine(0, state(0, hop(1, 1)), state(0, arc(1, 1, most, 0), arc(1, 1, most, 0), arc(1, 1, most, 0)))},
		{"a Weight, of the first of two arcs", machine(0, state(0, hop(1, 1)), state(0, arc(1, 1, most, 0), arc(2, 1, 0, 0)))},
		{"a Weight, of the last of two arcs", machine(0, state(0, hop(1, 1)), state(0, arc(1, 1, 0, 0), arc(2, 1, most, 0)))},
		{"a Weight, by one, along two hops", machine(0, state(0, hop(most, 1)), state(0, hop(1, 2)), state(0, arc(1, 1, 0, 0)))},
		{"a Weight, by very much", chain(api.MaxStates, most, inf, arc(1, 1, most, 0))},
		{"a Weight of what can't be reached", machine(0, state(0), state(0, hop(1, 2)), state(0, arc(1, 1, most, 0)))},
		{"a Weight, no Start", machine(-1, state(0, hop(1, 1)), state(0, arc(1, 1, most, 0)))},
		{"a Weight of an arc that leads nowhere", machine(0, state(0, hop(1, 1)), state(0, arc(1, 1, most, 2)), state(inf))},
	} {
		checkRefused(t, c.what, c.m, api.ErrOver)
	}
}

// P14.1: what is not left may be too much.
func TestTooMuchIsNotLeft(t *testing.T) {
	x := arc(1, 1, most, 0)
	checkAll(t, []example{
		{"as much as may be", machine(0, state(0, hop(1, 1)), state(0, arc(1, 1, most-1, 0))), machine(0, state(0, x), state(0, arc(1, 1, most-1, 0)))},
		{"as much as may be, a hop", machine(0, state(0, hop(most, 1)), state(0, arc(1, 1, 0, 0))), machine(0, state(0, x), state(0, arc(1, 1, 0, 0)))},
		{"its own is lighter", machine(0, state(0, x, hop(1, 1)), state(0, x)), machine(0, state(0, x), state(0, x))},
		{"another one is lighter", machine(0, state(0, hop(1, 1), hop(4, 2)), state(0, x), state(0, arc(1, 1, 5, 0))), machine(0, state(0, arc(1, 1, 9, 0)), state(0, x), state(0, arc(1, 1, 5, 0)))},
		{"another hop is less", machine(0, state(0, hop(most, 1), hop(0, 1)), state(0, x)), machine(0, state(0, x), state(0, x))},
		{"hops to what has nothing", chain(4, most, inf), machine(0, state(inf), state(inf), state(inf), state(inf))},
		{"a hop of the number of Inf to what has nothing", machine(0, state(0, hop(most, 1)), state(0, hop(1, 2)), state(inf)), machine(0, state(0), state(0), state(inf))},
		{"an empty arc for the most", machine(0, state(0, x, hop(most, 0))), machine(0, state(0, x))},
	})
	checkRefused(t, "a hop of the number of Inf to what has an arc", machine(0, state(0, hop(most, 1)), state(0, hop(1, 2)), state(inf, arc(1, 1, 0, 0))), api.ErrOver)
}

// P14.1: ErrFull
func TestTooManyArcs(t *testing.T) {
	for _, c := range []struct {
		what string
		m    api.Machine
		arcs int
	}{
		{"as many as may be", chain(20, 0, 0, spread(20, 0)...), 400},
		{"in two states", machine(0, state(0, append(spread(100, 0), hop(3, 1))...), state(inf, spread(150, 1)...)), 400},
		{"one too many, in two states", machine(0, state(0, append(spread(101, 0), hop(3, 1))...), state(inf, spread(150, 1)...)), 401},
		{"in many states", chain(20, 0, 0, spread(21, 0)...), 420},
		{"in as many states as may be", chain(api.MaxStates, 0, 0, spread(7, 0)...), 420},
		{"far too many", chain(api.MaxStates, 0, 0, spread(341, 0)...), 20460},
		{"no Start", machine(-1, chain(20, 0, 0, spread(21, 0)...).States...), 420},
	} {
		if c.arcs > api.MaxArcs {
			checkRefused(t, c.what, c.m, api.ErrFull)
			continue
		}
		got, err := Remove(c.m)
		if n, _ := core.Count(got); err != api.OK || n.Arcs != c.arcs {
			t.Errorf("%s: %v, %v, want %d arcs", c.what, n, err, c.arcs)
		}
	}
}

// P14.1: what is not left is not one too many.
func TestTooManyArcsAreNotLeft(t *testing.T) {
	m := chain(api.MaxStates, 1, 0)
	for i := range api.MaxArcs - api.MaxStates + 1 {
		m.States[api.MaxStates-1].Arcs = append(m.States[api.MaxStates-1].Arcs, arc(1, 1, 1000-i, 0))
	}
	got, err := Remove(m)
	if err != api.OK || len(got.States) != api.MaxStates {
		t.Fatalf("%v, %v", got, err)
	}
	lightest := 1000 - (api.MaxArcs - api.MaxStates)
	for q, s := range got.States {
		ahead := api.MaxStates - 1 - q
		if s.Final != ahead || !slices.Equal(s.Arcs, []api.Arc{arc(1, 1, lightest+ahead, 0)}) {
			t.Errorf("state %d is %v", q, s)
		}
	}
}

// P14.1: ErrOver comes ahead of ErrFull, whichever states come first.
func TestTooMuchAheadOfTooMany(t *testing.T) {
	full := machine(-1, chain(20, 0, 0, spread(21, 0)...).States...)
	checkRefused(t, "full alone", full, api.ErrFull)
	for _, over := range []api.Machine{
		machine(-1, state(inf, hop(1, 1)), state(most)),
		machine(-1, state(0, hop(1, 1)), state(0, arc(1, 1, most, 0))),
	} {
		for _, both := range [][2]api.Machine{{over, full}, {full, over}} {
			// Machines that have no Start stand side by side, without an arc from one to the other.
			m, err := rational.Union(both[0], both[1])
			if err != api.OK {
				t.Fatal(err)
			}
			checkRefused(t, "over and full", m, api.ErrOver)
		}
	}
	checkRefused(t, "full by what is over", chain(20, most, 0, spread(21, 0)...), api.ErrOver)
}

func wrongMachines() []api.Machine {
	x := machine(0, state(inf, hop(1, 1)), state(most, spread(300, 0)...))
	l := []api.Machine{{}, {Start: 1}, {Start: -2},
		machine(0, slices.Repeat([]api.State{state(0)}, api.MaxStates+1)...),
		machine(0, state(0, spread(api.MaxArcs+1, 0)...)),
		machine(0, state(0, slices.Repeat([]api.Arc{{}}, api.MaxArcs+1)...)),
		machine(0, state(0, slices.Repeat([]api.Arc{{}}, 200)...), state(0, slices.Repeat([]api.Arc{{}}, 201)...)),
		machine(2, x.States...), machine(-2, x.States...)}
	for _, n := range []int{math.MinInt, math.MaxInt, -2, inf + 1} {
		l = append(l,
			machine(n, state(0)),
			machine(0, state(n)),
			machine(0, state(0, arc(n, 0, 0, 0))),
			machine(0, state(0, arc(0, n, 0, 0))),
			machine(0, state(0, hop(n, 0))),
			machine(0, state(0, hop(0, n))),
			machine(0, state(0, arc(1, 1, n, 0))),
			machine(0, state(0, arc(1, 1, 0, n))))
	}
	return append(l,
		machine(0, state(0, arc(top+1, 0, 0, 0))),
		machine(0, state(0, arc(0, top+1, 0, 0))),
		machine(0, state(0, hop(inf, 0))),
		machine(0, state(0, hop(0, 1))),
		machine(0, state(0, hop(0, -1))),
		machine(-1, state(0, hop(0, 1))))
}

// P4.1: a machine that is not right is refused, ahead of all else.
func TestMachinesThatAreNotRight(t *testing.T) {
	for _, m := range wrongMachines() {
		want := core.Check(m)
		if want == api.OK {
			t.Errorf("%v is right", m)
		}
		checkRefused(t, "not right", m, want)
	}
}
