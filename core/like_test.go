package core

import (
	"testing"

	"tropica/api"
)

var all = api.Props{Acceptor: true, Full: true, Certain: true, Sorted: true, Plain: true}

// but: all Bits hold, but those that are named (by their first letters).
func but(missing string) api.Props {
	p := all
	for _, letter := range missing {
		switch letter {
		case 'A':
			p.Acceptor = false
		case 'F':
			p.Full = false
		case 'C':
			p.Certain = false
		case 'S':
			p.Sorted = false
		case 'P':
			p.Plain = false
		}
	}
	return p
}

// two states, with these arcs each.
func two(first, second []api.Arc) api.Machine {
	return api.Machine{States: []api.State{{Arcs: first}, {Arcs: second}}}
}

func checkBits(t *testing.T, what string, m api.Machine, want api.Props) {
	t.Helper()
	if p, err := Bits(m); p != want || err != api.OK {
		t.Errorf("%s: Bits is %+v, %v, want %+v", what, p, err, want)
	}
}

// P4.3
func TestAllBitsOfMachinesWithoutArcs(t *testing.T) {
	checkBits(t, "no states", api.Machine{Start: -1}, all)
	checkBits(t, "no arcs", looped(api.MaxStates, 0), all)
	checkBits(t, "no Start", startingAt(looped(2, 0), -1), all)
	checkBits(t, "no ends", api.Machine{States: []api.State{{Final: inf}, {Final: inf}}}, all)
	checkBits(t, "as many arcs as may be", looped(1, api.MaxArcs), all)
}

// P4.3
func TestAcceptor(t *testing.T) {
	x, y := api.Arc{In: 1, Out: 1}, api.Arc{In: 2, Out: 2}
	checkBits(t, "the same labels", one(x, y), all)
	checkBits(t, "empty on both sides", one(api.Arc{}, x), but("FC"))
	checkBits(t, "writes another label", one(x, api.Arc{In: 2, Out: 3}), but("A"))
	checkBits(t, "writes nothing", one(x, api.Arc{In: 2}), but("A"))
	checkBits(t, "reads nothing", one(api.Arc{Out: 2}, x), but("A"))
	checkBits(t, "the first of two", one(api.Arc{In: 1, Out: 2}, y), but("A"))
	checkBits(t, "in the last state", two([]api.Arc{x}, []api.Arc{{In: 2, Out: 1}}), but("A"))
}

// P4.3
func TestFull(t *testing.T) {
	x := api.Arc{In: 1, Out: 1}
	checkBits(t, "empty, alone", one(api.Arc{}), but("FC"))
	checkBits(t, "empty, with a weight", one(api.Arc{Weight: 1}), but("FCP"))
	checkBits(t, "empty, in the last state", two([]api.Arc{x}, []api.Arc{{To: 1}}), but("FC"))
	checkBits(t, "empty on one side", one(api.Arc{Out: 1}, api.Arc{In: 1}), but("A"))
	checkBits(t, "empty where no path goes", startingAt(one(api.Arc{}), -1), but("FC"))
}

// P4.3
func TestCertain(t *testing.T) {
	x, y := api.Arc{In: 1, Out: 2}, api.Arc{In: 2, Out: 1}
	toLast, dear := api.Arc{In: 1, Out: 2, To: 1}, api.Arc{In: 1, Out: 2, Weight: 1}
	checkBits(t, "labels the other way round", one(x, y), but("A"))
	checkBits(t, "the same In", one(x, api.Arc{In: 1, Out: 3}), but("A"))
	checkBits(t, "the same Out", one(x, api.Arc{In: 2, Out: 2}), but("A"))
	checkBits(t, "the same arc", one(x, x), but("AC"))
	checkBits(t, "to other states", two([]api.Arc{x, toLast}, nil), but("AC"))
	checkBits(t, "other weights", one(x, dear), but("ACP"))
	checkBits(t, "others between", one(x, api.Arc{In: 1, Out: 3}, x), but("ACS"))
	checkBits(t, "in the last state", two([]api.Arc{x}, []api.Arc{x, x}), but("AC"))
	checkBits(t, "in two states", two([]api.Arc{x, y}, []api.Arc{x, y}), but("A"))
	checkBits(t, "the sum of labels is the same", one(api.Arc{In: 1, Out: 4}, api.Arc{In: 2, Out: 3}), but("A"))
	checkBits(t, "one empty arc", one(api.Arc{}, x), but("AFC"))
}

// P4.3
func TestPlain(t *testing.T) {
	x, y := api.Arc{In: 1, Out: 1}, api.Arc{In: 2, Out: 2, Weight: 1}
	ends := func(finals ...int) api.Machine {
		m := looped(len(finals), 1)
		for q, f := range finals {
			m.States[q].Final = f
		}
		return m
	}
	checkBits(t, "ends for 0 or not at all", ends(0, inf, 0), all)
	checkBits(t, "ends for 1", ends(1), but("P"))
	checkBits(t, "ends for the most", ends(0, inf, most), but("P"))
	checkBits(t, "the first one ends for 1", ends(1, 0, inf), but("P"))
	checkBits(t, "an arc for 1", one(x, y), but("P"))
	checkBits(t, "an arc for the most", one(api.Arc{In: 1, Out: 1, Weight: most}), but("P"))
	checkBits(t, "an arc of the last state", two([]api.Arc{x}, []api.Arc{y}), but("P"))
}

// P4.3 and P4.4: of two neighbours in this list the former one stands ahead, by the key that is told.
func TestSortedGoesByTheOrder(t *testing.T) {
	ordered := []api.Arc{
		{},
		{Weight: 1},                       // by Weight
		{To: 1},                           // by To, ahead of Weight
		{Weight: most, To: 1},             // by Weight
		{Out: 1},                          // by Out, ahead of To and Weight
		{Out: 1, Weight: 2, To: 1},        // by To
		{Out: 2, Weight: 1},               // by Out
		{Out: api.MaxLabel, To: 2},        // by Out
		{In: 1},                           // by In, ahead of all others
		{In: 1, Out: 1, Weight: 5, To: 1}, // by Out
		{In: 1, Out: 1, Weight: 1, To: 2}, // by To, ahead of Weight
		{In: 1, Out: 1, Weight: 3, To: 2}, // by Weight
		{In: 2, Out: 1, Weight: 1},        // by In
		{In: 10, Out: 0, Weight: 0},       // by In, as a number
		{In: api.MaxLabel},                // by In
	}
	for i, a := range ordered {
		for j, b := range ordered {
			m := api.Machine{States: []api.State{{}, {Arcs: []api.Arc{a, b}}, {}}}
			if p, err := Bits(m); p.Sorted != (i <= j) || err != api.OK {
				t.Errorf("Sorted of %v, %v is %v, %v, want %v", a, b, p.Sorted, err, i <= j)
			}
		}
	}
}

// P4.3
func TestSortedOfMoreArcs(t *testing.T) {
	x, y, z := api.Arc{In: 1, Out: 1}, api.Arc{In: 2, Out: 2}, api.Arc{In: 3, Out: 3}
	checkBits(t, "in order", one(x, y, z), all)
	checkBits(t, "the same arcs", one(x, x, x), but("C"))
	checkBits(t, "the last one behind", one(x, z, y), but("S"))
	checkBits(t, "the first one behind", one(y, x, z), but("S"))
	checkBits(t, "the other way round", one(z, y, x), but("S"))
	checkBits(t, "the last state", two([]api.Arc{x, y}, []api.Arc{y, x}), but("S"))
	checkBits(t, "the first state", two([]api.Arc{y, x}, []api.Arc{x, y}), but("S"))
	checkBits(t, "states apart", two([]api.Arc{y, z}, []api.Arc{x, y}), all)
}

// drawn: a machine of small numbers, the same one for each seed.
func drawn(seed uint64) api.Machine {
	draw := func(most int) int {
		seed = seed*6364136223846793005 + 1442695040888963407
		return int((seed >> 33) % uint64(most))
	}
	n := 1 + draw(3)
	m := api.Machine{Start: draw(n+1) - 1, States: make([]api.State, n)}
	for q := range m.States {
		m.States[q].Final = []int{0, inf, 1}[draw(3)%(2+draw(2))]
		for range draw(4) {
			a := api.Arc{In: draw(3), Out: draw(3), Weight: draw(2) * draw(2), To: draw(n)}
			m.States[q].Arcs = append(m.States[q].Arcs, a)
		}
	}
	return m
}

// told: the Bits, by the words of P4.3, each two arcs of a state held against each other.
func told(m api.Machine) api.Props {
	p := all
	for _, s := range m.States {
		p.Plain = p.Plain && (s.Final == 0 || s.Final == inf)
		for j, b := range s.Arcs {
			p.Acceptor = p.Acceptor && b.In == b.Out
			p.Full = p.Full && b.In+b.Out > 0
			p.Plain = p.Plain && b.Weight == 0
			for _, a := range s.Arcs[:j] {
				p.Certain = p.Certain && (a.In != b.In || a.Out != b.Out)
				p.Sorted = p.Sorted && !standsAhead(b, a)
			}
		}
	}
	p.Certain = p.Certain && p.Full
	return p
}

// standsAhead, by the words of P4.4.
func standsAhead(a, b api.Arc) bool {
	switch {
	case a.In != b.In:
		return a.In < b.In
	case a.Out != b.Out:
		return a.Out < b.Out
	case a.To != b.To:
		return a.To < b.To
	}
	return a.Weight < b.Weight
}

// P4.3
func TestBitsOfManyMachines(t *testing.T) {
	seen := map[api.Props]int{}
	for seed := range uint64(3000) {
		m := drawn(seed)
		checkBits(t, "drawn", m, told(m))
		seen[told(m)]++
	}
	if len(seen) < 20 {
		t.Errorf("only %d kinds of machines were drawn", len(seen))
	}
}
