package paper

import (
	"fmt"
	"math"
	"reflect"
	"slices"
	"strconv"
	"strings"
	"testing"

	"tropica/api"
	"tropica/core"
)

const inf = api.Inf

func machine(start int, states ...api.State) api.Machine {
	return api.Machine{Start: start, States: states}
}

// state that ends for this much, with these arcs: To, In, Out and Weight of each.
func state(final int, arcs ...[4]int) api.State {
	s := api.State{Final: final}
	for _, a := range arcs {
		s.Arcs = append(s.Arcs, api.Arc{To: a[0], In: a[1], Out: a[2], Weight: a[3]})
	}
	return s
}

func text(lines ...string) string { return strings.Join(lines, "\n") + "\n" }

// great: as many states and arcs as may be, with the longest numbers that may be.
func great() api.Machine {
	last := api.MaxStates - 1
	m := api.Machine{Start: last, States: make([]api.State, api.MaxStates)}
	for q := range m.States {
		m.States[q].Final = api.MaxWeight
	}
	for i := range api.MaxArcs {
		s := &m.States[i*7%api.MaxStates]
		s.Arcs = append(s.Arcs, api.Arc{To: last, In: api.MaxLabel, Out: api.MaxLabel, Weight: api.MaxWeight})
	}
	return m
}

// byWords: P8.1, word by word, of any numbers.
func byWords(m api.Machine) string {
	s := fmt.Sprintf("start %d\n", m.Start)
	if m.Start == -1 {
		s = "start -\n"
	}
	for _, q := range m.States {
		if q.Final == inf {
			s += "state inf\n"
		} else {
			s += fmt.Sprintf("state %d\n", q.Final)
		}
		for _, a := range q.Arcs {
			s += fmt.Sprintf("arc %d %d %d %d\n", a.To, a.In, a.Out, a.Weight)
		}
	}
	return s
}

// alike: the same but for lists without elements, which may be nil or not.
func alike(a, b api.Machine) bool {
	return a.Start == b.Start && slices.EqualFunc(a.States, b.States, func(s, r api.State) bool {
		return s.Final == r.Final && slices.Equal(s.Arcs, r.Arcs)
	})
}

func checkShow(t *testing.T, what string, m api.Machine, want string, e api.Errno) {
	t.Helper()
	if s, err := Show(m); s != want || err != e {
		t.Errorf("%s: Show is %q, %v, want %q, %v", what, s, err, want, e)
	}
}

func checkRead(t *testing.T, what, s string, want api.Machine) {
	t.Helper()
	if m, err := Read(s); !alike(m, want) || err != api.OK {
		t.Errorf("%s: Read(%q) is %v, %v, want %v", what, s, m, err, want)
	}
}

func checkReadRefused(t *testing.T, what, s string, e api.Errno) {
	t.Helper()
	if m, err := Read(s); m.Start != 0 || len(m.States) != 0 || err != e {
		t.Errorf("%s: Read(%.60q) is %v, %v, want nothing, %v", what, s, m, err, e)
	}
}

// P8.1 and P8.2
func TestShowAndRead(t *testing.T) {
	for _, c := range []struct {
		what    string
		machine api.Machine
		text    string
	}{
		{"no states", machine(-1), "start -\n"},
		{"the chapter's", machine(0, state(inf, [4]int{1, 5, 6, 7}), state(0)), text("start 0", "state inf", "arc 1 5 6 7", "state 0")},
		{"no Start", machine(-1, state(0)), text("start -", "state 0")},
		{"one state, no end", machine(0, state(inf)), text("start 0", "state inf")},
		{"the last state is Start", machine(2, state(1), state(20), state(300)), text("start 2", "state 1", "state 20", "state 300")},
		{"noughts", machine(0, state(0, [4]int{})), text("start 0", "state 0", "arc 0 0 0 0")},
		{"most", machine(0, state(api.MaxWeight, [4]int{0, 1000, 1000, 1000000000})), text("start 0", "state 1000000000", "arc 0 1000 1000 1000000000")},
		{"arcs in their order", machine(0, state(0, [4]int{0, 3, 0, 9}, [4]int{0, 1, 2, 3}, [4]int{0, 3, 0, 9})), text("start 0", "state 0", "arc 0 3 0 9", "arc 0 1 2 3", "arc 0 3 0 9")},
		{"arcs of all states", machine(1, state(inf, [4]int{1, 1, 0, 0}), state(4), state(inf, [4]int{0, 0, 1, 10}, [4]int{2, 7, 8, 9})), text("start 1", "state inf", "arc 1 1 0 0", "state 4", "state inf", "arc 0 0 1 10", "arc 2 7 8 9")},
	} {
		checkShow(t, c.what, c.machine, c.text, api.OK)
		checkRead(t, c.what, c.text, c.machine)
	}
}

// P8.1 and P8.2: the longest text of all is no longer than may be read.
func TestGreatMachines(t *testing.T) {
	m := great()
	checkShow(t, "great", m, byWords(m), api.OK)
	checkRead(t, "great", byWords(m), m)
	loose := machine(0, slices.Repeat([]api.State{state(inf)}, api.MaxStates)...)
	checkShow(t, "loose", loose, "start 0\n"+strings.Repeat("state inf\n", api.MaxStates), api.OK)
	checkRead(t, "loose", byWords(loose), loose)
	wide := machine(0, state(0, slices.Repeat([][4]int{{0, 1, 2, 3}}, api.MaxArcs)...))
	checkShow(t, "wide", wide, "start 0\nstate 0\n"+strings.Repeat("arc 0 1 2 3\n", api.MaxArcs), api.OK)
	checkRead(t, "wide", byWords(wide), wide)
}

// drawn: a machine of small and great numbers, the same one for each seed.
func drawn(seed uint64) api.Machine {
	draw := func(most int) int {
		seed = seed*6364136223846793005 + 1442695040888963407
		return int((seed >> 33) % uint64(most))
	}
	n := 1 + draw(12)
	m := api.Machine{Start: draw(n+1) - 1, States: make([]api.State, n)}
	for q := range m.States {
		m.States[q].Final = []int{inf, 0, draw(9), draw(api.MaxWeight + 1)}[draw(4)]
		for range draw(4) {
			a := api.Arc{In: draw(api.MaxLabel + 1), Out: draw(12), Weight: []int{draw(12), draw(api.MaxWeight + 1)}[draw(2)], To: draw(n)}
			m.States[q].Arcs = append(m.States[q].Arcs, a)
		}
	}
	return m
}

// P8.1 and P8.2
func TestManyMachines(t *testing.T) {
	for seed := range uint64(2000) {
		m := drawn(seed)
		checkShow(t, "drawn", m, byWords(m), api.OK)
		checkRead(t, "drawn", byWords(m), m)
	}
}

// P8.2
func TestReadRefusesOtherForms(t *testing.T) {
	for _, s := range []string{
		"", "\n", " ", "-", "start", "start\n", "start \n", "start -", "start 0", "start 0\n", "start -1\n", "start --\n", "start - \n", " start -\n",
		"\nstart -\n", "start -\n\n", "start -\r\n", "start -\x00\n", "start  -\n", "start\t-\n", "Start -\n", "start-\n", "start -\nstart -\n", "\ufeffstart -\n", "start - -\n",
		"state 0\n", "state 0\nstart 0\n", "arc 0 1 2 3\n", "state 0\narc 0 1 2 3\n", "start 0\narc 0 1 2 3\n", "start 0\narc 0 1 2 3\nstate 0\n", "start -\narc 0 0 0 0\n",
		"start 1\nstate 0\n", "start 00\nstate 0\n", "start +0\nstate 0\n", "start -0\nstate 0\n", "start -1\nstate 0\n", "start -2\nstate 0\n", "start inf\nstate 0\n",
		"start 0\nstart 0\nstate 0\n", "start 0\nstate 0\nstart 0\n", "start -\nstate 0\nstart 0\n",
		"start 0\nstate\n", "start 0\nstate \n", "start 0\nstate -\n", "start 0\nstate 0", "start 0\nstate 0 \n", "start 0\nstate 0 0\n", "start 0\nstate Inf\n", "start 0\nstate infinity\n",
		"start 0\nstate 00\n", "start 0\nstate +1\n", "start 0\nstate -1\n", "start 0\nstate 01\n", "start 0\nstate 1000000001\n", "start 0\nstate 1000000002\n", "start 0\nstate 9999999999999\n",
		"start 0\nstate 0\narc 0 1 2 3", "start 0\nstate 0\narc 0 1 2\n", "start 0\nstate 0\narc 0 1 2 3 4\n", "start 0\nstate 0\narc 0 1 2 3 \n", "start 0\nstate 0\n arc 0 1 2 3\n", "start 0\nstate 0\narc  0 1 2 3\n", "start 0\nstate 0\narc 0 1  2 3\n",
		"start 0\nstate 0\narc\n", "start 0\nstate 0\narc \n", "start 0\nstate 0\narc    \n", "start 0\nstate 0\narc 1 1 2 3\n", "start 0\nstate 0\narc - 1 2 3\n", "start 0\nstate 0\narc -1 1 2 3\n",
		"start 0\nstate 0\narc 0 1001 2 3\n", "start 0\nstate 0\narc 0 1 1001 3\n", "start 0\nstate 0\narc 0 1 2 1000000001\n", "start 0\nstate 0\narc 0 1 2 inf\n", "start 0\nstate 0\narc 0 -1 2 3\n", "start 0\nstate 0\narc 0 1 -2 3\n", "start 0\nstate 0\narc 0 1 2 -3\n",
		"start 0\nstate 0\narc 00 1 2 3\n", "start 0\nstate 0\narc 0 01 2 3\n", "start 0\nstate 0\narc 0 1 02 3\n", "start 0\nstate 0\narc 0 1 2 03\n", "start 0\nstate 0\narc 0 +1 2 3\n", "start 0\nstate 0\narc 0 1 2 1_0\n", "start 0\nstate 0\narc 0 1 2 0x1\n", "start 0\nstate 0\narc 0 1 2 \u0663\n",
		"start 0\nstate 0\narc 18446744073709551616 1 2 3\n", "start 0\nstate 0\narc 0 18446744073709551617 2 3\n", "start 0\nstate 0\narc 0 1 2 99999999999999999999999\n", "start 18446744073709551616\nstate 0\n",
		"start 0\n\nstate 0\n", "start 0\nstate 0\n\n", "start 0\nstate 0\n# a remark\n", "start 0\nstates 0\n", "start 0\nSTATE 0\n", "start 0\nstate 0\nARC 0 1 2 3\n", "start 0\nstate 0\narcs 0 1 2 3\n", "start 0,state 0\n",
	} {
		checkReadRefused(t, "other form", s, api.ErrForm)
	}
}

// P8.2
func TestReadOfTooMany(t *testing.T) {
	most := byWords(great())
	for _, c := range []struct {
		what, text string
		want       api.Errno
	}{
		{"a state too many", most + "state 0\n", api.ErrForm},
		{"an arc too many", most + "arc 0 0 0 0\n", api.ErrForm},
		{"MaxText bytes", strings.Repeat("\n", api.MaxText), api.ErrForm},
		{"one byte more", strings.Repeat("\n", api.MaxText+1), api.ErrSize},
		{"right, and then MaxText bytes in all", most + strings.Repeat("x", api.MaxText-len(most)), api.ErrForm},
		{"right, and then one byte more", most + strings.Repeat("x", api.MaxText-len(most)+1), api.ErrSize},
		{"MaxText bytes of states", "start 0\n" + strings.Repeat("state 0\n", api.MaxText/8-1), api.ErrForm},
		{"more of states", "start 0\n" + strings.Repeat("state 0\n", api.MaxText/8), api.ErrSize},
		{"MaxText bytes of noughts", "start " + strings.Repeat("0", api.MaxText-15) + "\nstate 0\n", api.ErrForm},
		{"far more", strings.Repeat("start -\n", 100000), api.ErrSize},
	} {
		checkReadRefused(t, c.what, c.text, c.want)
	}
}

// P8.2: a text is read only if its machine is shown as that very text.
func TestReadOfEveryChangeOfOneByte(t *testing.T) {
	whole := text("start 1", "state inf", "arc 1 10 0 999", "state 1000000000", "arc 0 1000 2 30", "arc 1 0 0 0", "state 0")
	for at := range whole {
		for c := range 256 {
			checkReadOrRefused(t, whole[:at]+string([]byte{byte(c)})+whole[at+1:])
			checkReadOrRefused(t, whole[:at]+string([]byte{byte(c)})+whole[at:])
		}
		checkReadOrRefused(t, whole[:at])
		checkReadOrRefused(t, whole[at:])
		checkReadOrRefused(t, whole[:at]+whole[at+1:])
	}
}

func checkReadOrRefused(t *testing.T, s string) {
	t.Helper()
	m, err := Read(s)
	switch {
	case err != api.OK:
		checkReadRefused(t, "changed", s, api.ErrForm)
	case core.Check(m) != api.OK:
		t.Errorf("Read(%q) is %v, which is not right", s, m)
	case byWords(m) != s:
		t.Errorf("Read(%q) is %v, which is shown as %q", s, m, byWords(m))
	}
}

type wrongMachine struct {
	what    string
	machine api.Machine
}

func wrongMachines() []wrongMachine {
	states, arcs, both := great(), great(), great()
	states.States = append(states.States, state(0))
	arcs.States[3].Arcs = append(arcs.States[3].Arcs, api.Arc{})
	both.States = append(both.States, state(-1))
	both.Start = -2
	l := []wrongMachine{
		{"no states, Start 0", api.Machine{}},
		{"no states, Start 1", api.Machine{Start: 1}},
		{"a state too many", states},
		{"an arc too many", arcs},
		{"a state too many, no such Start", both},
	}
	add := func(what string, n int, do func(m *api.Machine)) {
		m := machine(0, state(0, [4]int{1, 1, 1, 1}), state(1, [4]int{0, 0, 0, 0}, [4]int{2, 2, 2, 2}), state(inf))
		do(&m)
		l = append(l, wrongMachine{what + " " + strconv.Itoa(n), m})
	}
	for _, n := range []int{math.MinInt, math.MaxInt, -2, inf + 1} {
		add("Start", n, func(m *api.Machine) { m.Start = n })
		add("Final", n, func(m *api.Machine) { m.States[2].Final = n })
		add("In", n, func(m *api.Machine) { m.States[1].Arcs[1].In = n })
		add("Out", n, func(m *api.Machine) { m.States[1].Arcs[1].Out = n })
		add("Weight", n, func(m *api.Machine) { m.States[1].Arcs[1].Weight = n })
		add("To", n, func(m *api.Machine) { m.States[1].Arcs[1].To = n })
	}
	add("Start", 3, func(m *api.Machine) { m.Start = 3 })
	add("Final", -1, func(m *api.Machine) { m.States[0].Final = -1 })
	add("In", api.MaxLabel+1, func(m *api.Machine) { m.States[1].Arcs[0].In = api.MaxLabel + 1 })
	add("Out", api.MaxLabel+1, func(m *api.Machine) { m.States[1].Arcs[0].Out = api.MaxLabel + 1 })
	add("Weight", inf, func(m *api.Machine) { m.States[1].Arcs[0].Weight = inf })
	add("To", 3, func(m *api.Machine) { m.States[1].Arcs[0].To = 3 })
	add("To", -1, func(m *api.Machine) { m.States[1].Arcs[1].To = -1 })
	return l
}

// P8.1 and P8.2, with P4.1: such a machine has no text, and what would be its text is none.
func TestMachinesThatAreNotRightAreRefused(t *testing.T) {
	for _, c := range wrongMachines() {
		want := core.Check(c.machine)
		if want == api.OK {
			t.Errorf("%s: the machine is right", c.what)
		}
		checkShow(t, c.what, c.machine, "", want)
		checkReadRefused(t, c.what, byWords(c.machine), api.ErrForm)
	}
}

// What is handed in stays as it is, the spare room of its lists too, and does not count.
func TestMachinesStayAsTheyAre(t *testing.T) {
	wrong := api.Arc{In: -1, Out: -1, Weight: -1, To: -1}
	arcs := []api.Arc{{To: 1}, {To: 0, In: 5}, wrong}
	states := []api.State{{Final: inf, Arcs: arcs[:1]}, {Final: 4, Arcs: arcs[1:2]}, {Final: -1, Arcs: arcs[2:]}}
	keptArcs, keptStates := slices.Clone(arcs), slices.Clone(states)
	checkShow(t, "with spare room", api.Machine{States: states[:2]}, text("start 0", "state inf", "arc 1 0 0 0", "state 4", "arc 0 5 0 0"), api.OK)
	if !slices.Equal(arcs, keptArcs) {
		t.Errorf("the arcs became %v", arcs)
	}
	if !reflect.DeepEqual(states, keptStates) {
		t.Errorf("the states became %v", states)
	}
}

// P8.2: an answer is new memory, its spare room too, and no two of its lists share any.
func TestWhatIsReadIsNewMemory(t *testing.T) {
	s := byWords(drawn(7))
	first, _ := Read(s)
	second, _ := Read(s)
	spoilStates(first.States)
	if byWords(second) != s {
		t.Errorf("two answers share memory: %v", second)
	}
	for q := range second.States {
		m, _ := Read(s)
		spoilArcs(m.States[q].Arcs)
		m.States[q] = second.States[q]
		if byWords(m) != s {
			t.Errorf("the arcs of state %d share memory with others: %v", q, m)
		}
	}
	checkRead(t, "asked again", s, drawn(7))
}

func spoilStates(l []api.State) {
	l = l[:cap(l)]
	for q := range l {
		spoilArcs(l[q].Arcs)
		l[q].Final = -7
	}
}

func spoilArcs(l []api.Arc) {
	l = l[:cap(l)]
	for i := range l {
		l[i] = api.Arc{In: -7, Out: -7, Weight: -7, To: -7}
	}
}

// Nothing is kept from call to call.
func TestNothingIsKept(t *testing.T) {
	m := machine(0, state(inf, [4]int{1, 2, 3, 4}), state(0))
	checkShow(t, "at first", m, text("start 0", "state inf", "arc 1 2 3 4", "state 0"), api.OK)
	m.States[0].Arcs[0].Weight = 5
	m.Start = 1
	checkShow(t, "changed", m, text("start 1", "state inf", "arc 1 2 3 5", "state 0"), api.OK)
	checkReadRefused(t, "wrong", "start 0\nstate 0\narc 7 1 1 1\n", api.ErrForm)
	checkRead(t, "right behind a wrong one", "start -\n", machine(-1))
}

func TestLinesEndWhenNoMoreAreWanted(t *testing.T) {
	var got []string
	for words := range lines("a b\nc\nd\n") {
		if got = append(got, words...); len(got) == 3 {
			break
		}
	}
	if !slices.Equal(got, []string{"a", "b", "c"}) {
		t.Errorf("the first two lines are %v", got)
	}
}
