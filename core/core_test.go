package core

import (
	"math"
	"slices"
	"strconv"
	"testing"

	"tropica/api"
)

const (
	most = api.MaxWeight
	inf  = api.Inf
)

// looped: n states, each with that many arcs to itself; the first one is Start.
func looped(n, arcs int) api.Machine {
	m := api.Machine{States: make([]api.State, n)}
	for q := range m.States {
		m.States[q].Arcs = loops(q, arcs)
	}
	return m
}

// loops: arcs to one state, all of other labels, in order.
func loops(to, n int) []api.Arc {
	var l []api.Arc
	for i := range n {
		l = append(l, api.Arc{In: i + 1, Out: i + 1, To: to})
	}
	return l
}

// one state that ends for 0 and has these arcs.
func one(arcs ...api.Arc) api.Machine {
	return api.Machine{States: []api.State{{Arcs: arcs}}}
}

// small: three states, with arcs and Finals of all kinds.
func small() api.Machine {
	return api.Machine{Start: 1, States: []api.State{
		{Final: inf, Arcs: []api.Arc{{In: 1, Out: 2, Weight: 3, To: 1}, {In: 2, Weight: most, To: 2}}},
		{Final: most, Arcs: []api.Arc{{Out: api.MaxLabel, To: 0}, {In: api.MaxLabel, Out: api.MaxLabel, To: 1}}},
		{Arcs: []api.Arc{{To: 2}}},
	}}
}

// changed: small, with something done to it.
func changed(do func(m *api.Machine)) api.Machine {
	m := small()
	do(&m)
	return m
}

func startingAt(m api.Machine, start int) api.Machine {
	m.Start = start
	return m
}

type rightMachine struct {
	what    string
	machine api.Machine
	counts  api.Counts
}

func rightMachines() []rightMachine {
	uneven := looped(3, 0)
	uneven.States[1].Arcs = loops(0, 1)
	uneven.States[2].Arcs = loops(2, api.MaxArcs-1)
	return []rightMachine{
		{"no states", api.Machine{Start: -1}, api.Counts{}},
		{"no states, not nil", api.Machine{Start: -1, States: []api.State{}}, api.Counts{}},
		{"one state", one(), api.Counts{States: 1, Finals: 1}},
		{"one state, not nil arcs", api.Machine{States: []api.State{{Arcs: []api.Arc{}}}}, api.Counts{States: 1, Finals: 1}},
		{"one state, no Start", startingAt(one(), -1), api.Counts{States: 1, Finals: 1}},
		{"one state that can't end", api.Machine{States: []api.State{{Final: inf}}}, api.Counts{States: 1}},
		{"one state that ends for the most", api.Machine{States: []api.State{{Final: most}}}, api.Counts{States: 1, Finals: 1}},
		{"small", small(), api.Counts{States: 3, Arcs: 5, Finals: 2}},
		{"no Start", startingAt(small(), -1), api.Counts{States: 3, Arcs: 5, Finals: 2}},
		{"Start is the first", startingAt(small(), 0), api.Counts{States: 3, Arcs: 5, Finals: 2}},
		{"Start is the last", startingAt(small(), 2), api.Counts{States: 3, Arcs: 5, Finals: 2}},
		{"as many states as may be", startingAt(looped(api.MaxStates, 0), api.MaxStates-1), api.Counts{States: api.MaxStates, Finals: api.MaxStates}},
		{"as many arcs as may be, in one state", looped(1, api.MaxArcs), api.Counts{States: 1, Arcs: api.MaxArcs, Finals: 1}},
		{"as many arcs as may be, in all", looped(api.MaxArcs/10, 10), api.Counts{States: api.MaxArcs / 10, Arcs: api.MaxArcs, Finals: api.MaxArcs / 10}},
		{"as many arcs as may be, uneven", uneven, api.Counts{States: 3, Arcs: api.MaxArcs, Finals: 3}},
		{"highest arc", one(api.Arc{In: api.MaxLabel, Out: api.MaxLabel, Weight: most}), api.Counts{States: 1, Arcs: 1, Finals: 1}},
		{"lowest arc", one(api.Arc{}), api.Counts{States: 1, Arcs: 1, Finals: 1}},
	}
}

type wrongMachine struct {
	what    string
	machine api.Machine
	want    api.Errno
}

func tooGreat() []wrongMachine {
	states, arcs := looped(api.MaxStates+1, 0), looped(2, api.MaxArcs/2)
	arcs.States[1].Arcs = append(arcs.States[1].Arcs, api.Arc{})
	wrongFinal, wrongArc := looped(api.MaxStates+1, 0), looped(1, api.MaxArcs+1)
	wrongFinal.States[0].Final = -1
	wrongArc.States[0].Arcs[0] = api.Arc{In: -1, Out: -1, Weight: -1, To: -1}
	return []wrongMachine{
		{"a state too many", states, api.ErrSize},
		{"far too many states", looped(5000, 0), api.ErrSize},
		{"an arc too many in one state", looped(1, api.MaxArcs+1), api.ErrSize},
		{"an arc too many in all", arcs, api.ErrSize},
		{"far too many arcs", looped(1, 5000), api.ErrSize},
		{"too many states and arcs", looped(api.MaxStates+1, 10), api.ErrSize},
		{"a state too many, no such Start", startingAt(states, -2), api.ErrSize},
		{"an arc too many, no such Start", startingAt(arcs, 2), api.ErrSize},
		{"a state too many, a Final that is none", wrongFinal, api.ErrSize},
		{"an arc too many, an arc that may not be", wrongArc, api.ErrSize},
	}
}

func wrongNumbers() []wrongMachine {
	out := []wrongMachine{
		{"no states, Start 0", api.Machine{}, api.ErrRange},
		{"no states, Start -2", api.Machine{Start: -2}, api.ErrRange},
		{"one state, Start 1", startingAt(one(), 1), api.ErrRange},
	}
	add := func(what string, n int, do func(m *api.Machine)) {
		out = append(out, wrongMachine{what + " " + strconv.Itoa(n), changed(do), api.ErrRange})
	}
	far := []int{math.MinInt, math.MaxInt, -1 << 32, 1 << 32, 1<<32 + 1, -2}
	for _, n := range append(far, 3) {
		add("Start", n, func(m *api.Machine) { m.Start = n })
	}
	for q, s := range small().States {
		for _, n := range append(far, -1, inf+1) {
			add("Final of "+strconv.Itoa(q), n, func(m *api.Machine) { m.States[q].Final = n })
		}
		for i := range s.Arcs {
			where := " of arc " + strconv.Itoa(i) + " of " + strconv.Itoa(q)
			for _, n := range append(far, -1, api.MaxLabel+1) {
				add("In"+where, n, func(m *api.Machine) { m.States[q].Arcs[i].In = n })
				add("Out"+where, n, func(m *api.Machine) { m.States[q].Arcs[i].Out = n })
			}
			for _, n := range append(far, -1, most+1, inf, inf+1) {
				add("Weight"+where, n, func(m *api.Machine) { m.States[q].Arcs[i].Weight = n })
			}
			for _, n := range append(far, -1, 3) {
				add("To"+where, n, func(m *api.Machine) { m.States[q].Arcs[i].To = n })
			}
		}
	}
	return out
}

func wrongMachines() []wrongMachine { return append(tooGreat(), wrongNumbers()...) }

// P4.1
func TestCheckTellsMachinesThatAreRight(t *testing.T) {
	for _, c := range rightMachines() {
		if err := Check(c.machine); err != api.OK {
			t.Errorf("%s: Check is %v", c.what, err)
		}
	}
}

// P4.1
func TestCheckRefuses(t *testing.T) {
	for _, c := range wrongMachines() {
		if err := Check(c.machine); err != c.want {
			t.Errorf("%s: Check is %v, want %v", c.what, err, c.want)
		}
	}
}

// P4.1
func TestAllRefuseWhatCheckRefuses(t *testing.T) {
	for _, c := range wrongMachines() {
		if n, err := Count(c.machine); n != (api.Counts{}) || err != c.want {
			t.Errorf("%s: Count is %v, %v, want nothing, %v", c.what, n, err, c.want)
		}
		if p, err := Bits(c.machine); p != (api.Props{}) || err != c.want {
			t.Errorf("%s: Bits is %v, %v, want nothing, %v", c.what, p, err, c.want)
		}
	}
}

// P4.2
func TestCount(t *testing.T) {
	for _, c := range rightMachines() {
		if n, err := Count(c.machine); n != c.counts || err != api.OK {
			t.Errorf("%s: Count is %v, %v, want %v", c.what, n, err, c.counts)
		}
	}
}

// The machine that is handed in stays as it is, the spare room of its lists too, and counts for nothing.
func TestMachinesStayAsTheyAre(t *testing.T) {
	arcs := append(loops(0, 2), api.Arc{In: -1, Out: -1, Weight: -1, To: -1})
	states := []api.State{{Arcs: arcs[:2]}, {Final: -1, Arcs: loops(9, 9)}}
	keptArcs, keptFinal := slices.Clone(arcs), states[1].Final
	m := api.Machine{States: states[:1]}
	if err := Check(m); err != api.OK {
		t.Errorf("Check looks into the spare room: %v", err)
	}
	if n, err := Count(m); n != (api.Counts{States: 1, Arcs: 2, Finals: 1}) || err != api.OK {
		t.Errorf("Count looks into the spare room: %v, %v", n, err)
	}
	if p, err := Bits(m); p != (api.Props{Acceptor: true, Full: true, Certain: true, Sorted: true, Plain: true}) || err != api.OK {
		t.Errorf("Bits looks into the spare room: %v, %v", p, err)
	}
	if !slices.Equal(arcs, keptArcs) || states[1].Final != keptFinal || !slices.Equal(states[1].Arcs, loops(9, 9)) {
		t.Errorf("the machine became %v", states)
	}
	unsorted := []api.Arc{{In: 2}, {In: 1}, {In: 1}}
	Bits(api.Machine{States: []api.State{{Arcs: unsorted}}})
	if !slices.Equal(unsorted, []api.Arc{{In: 2}, {In: 1}, {In: 1}}) {
		t.Errorf("the arcs became %v", unsorted)
	}
}

// Nothing is kept from call to call: a machine that was changed is another one.
func TestNothingIsKept(t *testing.T) {
	m := one(api.Arc{In: 1, Out: 1})
	Check(m)
	Count(m)
	Bits(m)
	m.States[0].Final = inf
	m.States[0].Arcs[0].Out = 0
	if n, err := Count(m); n != (api.Counts{States: 1, Arcs: 1}) || err != api.OK {
		t.Errorf("Count is %v, %v", n, err)
	}
	if p, err := Bits(m); p.Acceptor || err != api.OK {
		t.Errorf("Bits is %v, %v", p, err)
	}
	m.Start = 1
	if err := Check(m); err != api.ErrRange {
		t.Errorf("Check is %v, want ErrRange", err)
	}
}
