package packed

import (
	"bytes"
	"encoding/binary"
	"math"
	"reflect"
	"slices"
	"strconv"
	"testing"

	"tropica/api"
	"tropica/core"
)

const inf = api.Inf

func machine(start int, states ...api.State) api.Machine {
	return api.Machine{Start: start, States: states}
}

// state that ends for this much, with these arcs: In, Out, Weight and To of each.
func state(final int, arcs ...[4]int) api.State {
	s := api.State{Final: final}
	for _, a := range arcs {
		s.Arcs = append(s.Arcs, api.Arc{In: a[0], Out: a[1], Weight: a[2], To: a[3]})
	}
	return s
}

// great: as many states and arcs as may be, with the highest numbers that may be.
func great() api.Machine {
	last := api.MaxStates - 1
	m := api.Machine{Start: last, States: make([]api.State, api.MaxStates)}
	for q := range m.States {
		m.States[q].Final = inf
	}
	for i := range api.MaxArcs {
		s := &m.States[i*7%api.MaxStates]
		s.Arcs = append(s.Arcs, api.Arc{In: api.MaxLabel, Out: api.MaxLabel, Weight: api.MaxWeight, To: last})
	}
	return m
}

// drawn: a machine of small and great numbers, the same one for each seed.
func drawn(seed uint64) api.Machine {
	draw := func(most int) int {
		seed = seed*6364136223846793005 + 1442695040888963407
		return int((seed >> 33) % uint64(most))
	}
	n := 1 + draw(12)
	m := api.Machine{Start: draw(n+1) - 1, States: make([]api.State, n)}
	for q := range m.States {
		m.States[q].Final = []int{inf, 0, draw(9), draw(api.MaxWeight + 1)}[draw(4)]
		for range draw(4) {
			a := api.Arc{In: draw(api.MaxLabel + 1), Out: draw(12), Weight: []int{draw(12), draw(api.MaxWeight + 1)}[draw(2)], To: draw(n)}
			m.States[q].Arcs = append(m.States[q].Arcs, a)
		}
	}
	return m
}

// remainder: P9.1 another way: what is left of the bytes, as a polynomial behind sixteen ones, bit by bit, over 11021.
func remainder(b []byte) uint16 {
	padded := append(slices.Clone(b), 0, 0)
	padded[0] ^= 0xff
	padded[1] ^= 0xff
	rest := uint32(0)
	for _, c := range padded {
		for place := 7; place >= 0; place-- {
			rest = rest<<1 | uint32(c>>place&1)
			if rest&0x10000 != 0 {
				rest ^= 0x11021
			}
		}
	}
	return uint16(rest)
}

// summed: these bytes, and their sum.
func summed(b ...byte) []byte {
	return binary.BigEndian.AppendUint16(slices.Clone(b), remainder(b))
}

// bytesOf: P9.2 without the sum, of any numbers (what does not fit is cut off).
func bytesOf(m api.Machine) []byte {
	b := []byte{0x54, byte(len(m.States)), byte(m.Start + 1)}
	for _, s := range m.States {
		b = binary.BigEndian.AppendUint32(b, uint32(s.Final))
		b = binary.BigEndian.AppendUint16(b, uint16(len(s.Arcs)))
		for _, a := range s.Arcs {
			b = binary.BigEndian.AppendUint16(b, uint16(a.In))
			b = binary.BigEndian.AppendUint16(b, uint16(a.Out))
			b = binary.BigEndian.AppendUint32(b, uint32(a.Weight))
			b = append(b, byte(a.To))
		}
	}
	return b
}

// alike: the same but for lists without elements, which may be nil or not.
func alike(a, b api.Machine) bool {
	return a.Start == b.Start && slices.EqualFunc(a.States, b.States, func(s, r api.State) bool {
		return s.Final == r.Final && slices.Equal(s.Arcs, r.Arcs)
	})
}

func checkEncode(t *testing.T, what string, m api.Machine, want []byte, e api.Errno) {
	t.Helper()
	if b, err := Encode(m); !bytes.Equal(b, want) || err != e {
		t.Errorf("%s: Encode is % x, %v, want % x, %v", what, b, err, want, e)
	}
}

func checkDecode(t *testing.T, what string, b []byte, want api.Machine) {
	t.Helper()
	if m, err := Decode(b); !alike(m, want) || err != api.OK {
		t.Errorf("%s: Decode(% x) is %v, %v, want %v", what, b, m, err, want)
	}
}

func checkDecodeRefused(t *testing.T, what string, b []byte, e api.Errno) {
	t.Helper()
	if m, err := Decode(b); m.Start != 0 || len(m.States) != 0 || err != e {
		t.Errorf("%s: Decode(%.60x, %d bytes) is %v, %v, want nothing, %v", what, b, len(b), m, err, e)
	}
}

// P9.1: sums that are known by themselves.
func TestSum(t *testing.T) {
	for _, c := range []struct {
		text string
		want uint16
	}{
		{"", 0xffff},
		{"A", 0xb915},
		{"\x00", 0xe1f0},
		{"\xff", 0xff00},
		{"\xff\xff", 0},
		{"123456789", 0x29b1},
	} {
		if got := sumOf([]byte(c.text)); got != c.want {
			t.Errorf("the sum of %q is %04x, want %04x", c.text, got, c.want)
		}
	}
}

// P9.1
func TestSumsOfManyBytes(t *testing.T) {
	for seed := range uint64(500) {
		b := bytesOf(drawn(seed))
		if got, want := sumOf(b), remainder(b); got != want {
			t.Errorf("the sum of % x is %04x, want %04x", b, got, want)
		}
	}
}

// P9.2 and P9.3
func TestEncodeAndDecode(t *testing.T) {
	for _, c := range []struct {
		what    string
		machine api.Machine
		bytes   []byte
	}{
		{"the chapter's: no states", machine(-1), []byte{0x54, 0, 0}},
		{"no Start", machine(-1, state(0)), []byte{0x54, 1, 0, 0, 0, 0, 0, 0, 0}},
		{"Start 0", machine(0, state(7)), []byte{0x54, 1, 1, 0, 0, 0, 7, 0, 0}},
		{"no end", machine(0, state(inf)), []byte{0x54, 1, 1, 0x3b, 0x9a, 0xca, 0x01, 0, 0}},
		{"the last state is Start", machine(2, state(1), state(2), state(3)), []byte{0x54, 3, 3, 0, 0, 0, 1, 0, 0, 0, 0, 0, 2, 0, 0, 0, 0, 0, 3, 0, 0}},
		{"one arc", machine(0, state(0x01020304, [4]int{0x0102, 0x0304, 0x05060708, 1}), state(0)), []byte{
			0x54, 2, 1, 1, 2, 3, 4, 0, 1, 1, 2, 3, 4, 5, 6, 7, 8, 1, 0, 0, 0, 0, 0, 0}},
		{"noughts", machine(0, state(0, [4]int{})), []byte{0x54, 1, 1, 0, 0, 0, 0, 0, 1, 0, 0, 0, 0, 0, 0, 0, 0, 0}},
		{"most", machine(0, state(api.MaxWeight, [4]int{1000, 1000, 1000000000, 0})), []byte{
			0x54, 1, 1, 0x3b, 0x9a, 0xca, 0, 0, 1, 0x03, 0xe8, 0x03, 0xe8, 0x3b, 0x9a, 0xca, 0, 0}},
		{"arcs in their order", machine(0, state(0, [4]int{3, 0, 9, 0}, [4]int{1, 2, 3, 0}, [4]int{3, 0, 9, 0})), []byte{
			0x54, 1, 1, 0, 0, 0, 0, 0, 3, 0, 3, 0, 0, 0, 0, 0, 9, 0, 0, 1, 0, 2, 0, 0, 0, 3, 0, 0, 3, 0, 0, 0, 0, 0, 9, 0}},
		{"arcs of all states", machine(1, state(5, [4]int{1, 0, 2, 1}), state(4), state(6, [4]int{0, 1, 10, 0}, [4]int{7, 8, 9, 2})), []byte{
			0x54, 3, 2, 0, 0, 0, 5, 0, 1, 0, 1, 0, 0, 0, 0, 0, 2, 1, 0, 0, 0, 4, 0, 0, 0, 0, 0, 6, 0, 2, 0, 0, 0, 1, 0, 0, 0, 10, 0, 0, 7, 0, 8, 0, 0, 0, 9, 2}},
	} {
		checkEncode(t, c.what, c.machine, summed(c.bytes...), api.OK)
		checkDecode(t, c.what, summed(c.bytes...), c.machine)
	}
}

// P9.1 and P9.2: whole bytes, sum and all, as written down.
func TestWholeBytes(t *testing.T) {
	none := []byte{0x54, 0, 0, 0x4e, 0x92}
	checkEncode(t, "no states", machine(-1), none, api.OK)
	checkDecode(t, "no states", none, machine(-1))
	m := machine(0, state(inf, [4]int{5, 6, 7, 1}), state(0))
	b := []byte{0x54, 2, 1, 0x3b, 0x9a, 0xca, 1, 0, 1, 0, 5, 0, 6, 0, 0, 0, 7, 1, 0, 0, 0, 0, 0, 0, 0xf5, 0x30}
	checkEncode(t, "one arc", m, b, api.OK)
	checkDecode(t, "one arc", b, m)
}

// P9.2 and P9.3
func TestGreatMachines(t *testing.T) {
	for _, c := range []struct {
		what    string
		machine api.Machine
		bytes   int
	}{
		{"great", great(), 3 + 60*6 + 400*9 + 2},
		{"loose", machine(-1, slices.Repeat([]api.State{state(inf)}, api.MaxStates)...), 3 + 60*6 + 2},
		{"wide", machine(0, state(0, slices.Repeat([][4]int{{1, 2, 3, 0}}, api.MaxArcs)...)), 3 + 6 + 400*9 + 2},
	} {
		want := summed(bytesOf(c.machine)...)
		if len(want) != c.bytes {
			t.Errorf("%s: %d bytes are wanted, not %d", c.what, len(want), c.bytes)
		}
		checkEncode(t, c.what, c.machine, want, api.OK)
		checkDecode(t, c.what, want, c.machine)
	}
}

// P9.2 and P9.3
func TestManyMachines(t *testing.T) {
	for seed := range uint64(2000) {
		m := drawn(seed)
		checkEncode(t, "drawn", m, summed(bytesOf(m)...), api.OK)
		checkDecode(t, "drawn", summed(bytesOf(m)...), m)
	}
}

// P9.3: which error comes ahead of which.
func TestDecodeByLength(t *testing.T) {
	long, right := summed(slices.Repeat([]byte{0x54}, api.MaxBytes-2)...), summed(bytesOf(great())...)
	wrongSum := slices.Clone(long)
	wrongSum[9]++
	for _, c := range []struct {
		what  string
		bytes []byte
		want  api.Errno
	}{
		{"nil", nil, api.ErrForm},
		{"no bytes", []byte{}, api.ErrForm},
		{"one byte", []byte{0x54}, api.ErrForm},
		{"the sum of nothing", []byte{0xff, 0xff}, api.ErrForm},
		{"three without a sum", []byte{0x54, 0, 0}, api.ErrForm},
		{"one, and its sum", summed(0x54), api.ErrForm},
		{"four, the sum is right", summed(0x54, 0), api.ErrForm},
		{"four, the sum is wrong", []byte{0x54, 0, 1, 2}, api.ErrForm},
		{"five, the sum is wrong", []byte{0x54, 0, 0, 1, 2}, api.ErrSum},
		{"five, no such machine, the sum is wrong", []byte{0, 9, 9, 1, 2}, api.ErrSum},
		{"five noughts", make([]byte, 5), api.ErrSum},
		{"MaxBytes, the sum is right", long, api.ErrForm},
		{"MaxBytes, the sum is wrong", wrongSum, api.ErrSum},
		{"one byte more, the sum is right", summed(slices.Repeat([]byte{0x54}, api.MaxBytes-1)...), api.ErrSize},
		{"one byte more, the sum is wrong", make([]byte, api.MaxBytes+1), api.ErrSize},
		{"a machine, then 1 up to MaxBytes in all", append(slices.Clone(right), slices.Repeat([]byte{1}, api.MaxBytes-len(right))...), api.ErrSum},
		// Behind a right sum the register is 0, and noughts leave it so.
		{"a machine, then noughts up to MaxBytes in all", append(slices.Clone(right), make([]byte, api.MaxBytes-len(right))...), api.ErrForm},
		{"a machine, then noughts up to one byte more", append(slices.Clone(right), make([]byte, api.MaxBytes-len(right)+1)...), api.ErrSize},
		{"far more", make([]byte, 1000000), api.ErrSize},
	} {
		checkDecodeRefused(t, c.what, c.bytes, c.want)
	}
}

// P9.3: the sum is that of all other bytes, the highest byte first.
func TestDecodeOfOtherSums(t *testing.T) {
	b := bytesOf(drawn(3))
	sum := remainder(b)
	for other := range 1 << 16 {
		if uint16(other) != sum {
			checkDecodeRefused(t, "another sum", binary.BigEndian.AppendUint16(slices.Clone(b), uint16(other)), api.ErrSum)
		}
	}
	checkDecodeRefused(t, "the lowest byte first", binary.LittleEndian.AppendUint16(slices.Clone(b), sum), api.ErrSum)
	checkDecodeRefused(t, "the sum is left out", b, api.ErrSum)
	checkDecodeRefused(t, "the sum is there twice", summed(summed(b...)...), api.ErrForm)
}

// What comes of it: one changed byte is always told.
func TestDecodeOfEveryChangeOfOneByte(t *testing.T) {
	for _, m := range []api.Machine{machine(-1), machine(0, state(inf)), drawn(5)} {
		b := summed(bytesOf(m)...)
		for at := range b {
			for change := 1; change < 256; change++ {
				changed := slices.Clone(b)
				changed[at] ^= byte(change)
				checkDecodeRefused(t, "one changed byte", changed, api.ErrSum)
			}
		}
	}
}

// P9.3: the sum is right, but the bytes end too early, or too late, or begin otherwise.
func TestDecodeOfOtherForms(t *testing.T) {
	b := bytesOf(machine(1, state(3, [4]int{1, 2, 3, 1}, [4]int{4, 5, 6, 0}), state(inf), state(0, [4]int{0, 0, 0, 2})))
	for end := range b {
		checkDecodeRefused(t, "ends too early", summed(b[:end]...), api.ErrForm)
	}
	for _, more := range [][]byte{{0}, {0, 0}, make([]byte, 6), make([]byte, 9), {0x54, 0, 0}, b} {
		checkDecodeRefused(t, "ends too late", summed(append(slices.Clone(b), more...)...), api.ErrForm)
	}
	for first := range 256 {
		if first != 0x54 {
			changed := slices.Clone(b)
			changed[0] = byte(first)
			checkDecodeRefused(t, "begins otherwise", summed(changed...), api.ErrForm)
			checkDecodeRefused(t, "no states, begins otherwise", summed(byte(first), 0, 0), api.ErrForm)
		}
	}
}

// P9.3: numbers of states and arcs that the bytes do not hold, or that hold more than may be.
func TestDecodeOfTooMany(t *testing.T) {
	for _, c := range []struct {
		what  string
		bytes []byte
	}{
		{"255 states, none there", []byte{0x54, 255, 0}},
		{"65535 arcs, none there", []byte{0x54, 1, 1, 0, 0, 0, 0, 255, 255}},
		{"two arcs, one there", []byte{0x54, 1, 1, 0, 0, 0, 0, 0, 2, 0, 0, 0, 0, 0, 0, 0, 0, 0}},
		{"one arc, two there", []byte{0x54, 1, 1, 0, 0, 0, 0, 0, 1, 0, 0, 0, 0, 0, 0, 0, 0, 0, 0, 0, 0, 0, 0, 0, 0, 0, 0}},
		{"no arc, one there", []byte{0x54, 1, 1, 0, 0, 0, 0, 0, 0, 0, 0, 0, 0, 0, 0, 0, 0, 0}},
		{"no states, one there", []byte{0x54, 0, 0, 0, 0, 0, 0, 0, 0}},
		{"61 states, all there", append([]byte{0x54, 61, 1}, make([]byte, 61*6)...)},
		{"255 states, all there", append([]byte{0x54, 255, 1}, make([]byte, 255*6)...)},
		{"401 arcs, all there", append([]byte{0x54, 1, 1, 0, 0, 0, 0, 401 >> 8, 401 & 255}, make([]byte, 401*9)...)},
		{"887 arcs, all there", append([]byte{0x54, 1, 1, 0, 0, 0, 0, 887 >> 8, 887 & 255}, make([]byte, 887*9)...)},
		{"MaxBytes bytes, all are states and arcs", append([]byte{0x54, 1, 1, 0, 0, 0, 0, 255, 255}, make([]byte, api.MaxBytes-11)...)},
	} {
		checkDecodeRefused(t, c.what, summed(c.bytes...), api.ErrForm)
	}
}

// P9.3: whatever bytes stand there, the answer is a machine that is right and has these bytes, or ErrForm.
func TestDecodeOfEveryChangeBelowARightSum(t *testing.T) {
	b := bytesOf(machine(1, state(inf, [4]int{1000, 0, api.MaxWeight, 1}), state(1, [4]int{2, 3, 4, 0}, [4]int{0, 0, 0, 1})))
	for at := range b {
		for c := range 256 {
			changed := slices.Clone(b)
			changed[at] = byte(c)
			checkDecodedOrRefused(t, summed(changed...))
			checkDecodedOrRefused(t, summed(slices.Insert(slices.Clone(b), at, byte(c))...))
		}
		checkDecodedOrRefused(t, summed(slices.Delete(slices.Clone(b), at, at+1)...))
	}
}

func checkDecodedOrRefused(t *testing.T, b []byte) {
	t.Helper()
	m, err := Decode(b)
	switch {
	case err != api.OK:
		checkDecodeRefused(t, "changed", b, api.ErrForm)
	case core.Check(m) != api.OK:
		t.Errorf("Decode(% x) is %v, which is not right", b, m)
	case !bytes.Equal(summed(bytesOf(m)...), b):
		t.Errorf("Decode(% x) is %v, which has other bytes", b, m)
	}
}

type wrongMachine struct {
	what    string
	machine api.Machine
	fits    bool // its numbers do not go beyond their bytes
}

func wrongMachines() []wrongMachine {
	states, arcs, both := great(), great(), great()
	states.States = append(states.States, state(0))
	arcs.States[3].Arcs = append(arcs.States[3].Arcs, api.Arc{})
	both.States = append(both.States, state(-1))
	both.Start = -2
	l := []wrongMachine{
		{"no states, Start 0", api.Machine{}, true},
		{"no states, Start 1", api.Machine{Start: 1}, true},
		{"a state too many", states, true},
		{"an arc too many", arcs, true},
		{"a state too many, no such Start", both, false},
		{"256 states", machine(0, make([]api.State, 256)...), false},
		{"65536 arcs", machine(0, state(0, make([][4]int, 65536)...)), false},
	}
	add := func(what string, n int, fits bool, do func(m *api.Machine)) {
		m := machine(0, state(0, [4]int{1, 1, 1, 1}), state(1, [4]int{0, 0, 0, 0}, [4]int{2, 2, 2, 2}), state(inf))
		do(&m)
		l = append(l, wrongMachine{what + " " + strconv.Itoa(n), m, fits})
	}
	addAll := func(n int, byteFits, twoFit, fourFit bool) {
		add("Start", n, byteFits, func(m *api.Machine) { m.Start = n })
		add("Final", n, fourFit, func(m *api.Machine) { m.States[2].Final = n })
		add("In", n, twoFit, func(m *api.Machine) { m.States[1].Arcs[1].In = n })
		add("Out", n, twoFit, func(m *api.Machine) { m.States[1].Arcs[1].Out = n })
		add("Weight", n, fourFit, func(m *api.Machine) { m.States[1].Arcs[1].Weight = n })
		add("To", n, byteFits, func(m *api.Machine) { m.States[1].Arcs[1].To = n })
	}
	for _, n := range []int{math.MinInt, math.MaxInt, -2, 1 << 32} {
		addAll(n, false, false, false)
	}
	addAll(inf+1, false, false, true)
	addAll(math.MaxUint32, false, false, true)
	for _, n := range []int{3, 60, 254} {
		add("Start", n, true, func(m *api.Machine) { m.Start = n })
		add("To", n, true, func(m *api.Machine) { m.States[1].Arcs[0].To = n })
	}
	for _, n := range []int{api.MaxLabel + 1, math.MaxUint16} {
		add("In", n, true, func(m *api.Machine) { m.States[1].Arcs[0].In = n })
		add("Out", n, true, func(m *api.Machine) { m.States[1].Arcs[0].Out = n })
	}
	add("Weight", inf, true, func(m *api.Machine) { m.States[1].Arcs[0].Weight = inf })
	add("Final", -1, false, func(m *api.Machine) { m.States[0].Final = -1 })
	add("To", -1, false, func(m *api.Machine) { m.States[1].Arcs[1].To = -1 })
	return l
}

// P9.2 and P9.3, with P4.1: such a machine has no bytes, and what would be its bytes is none.
func TestMachinesThatAreNotRightAreRefused(t *testing.T) {
	for _, c := range wrongMachines() {
		want := core.Check(c.machine)
		if want == api.OK {
			t.Errorf("%s: the machine is right", c.what)
		}
		checkEncode(t, c.what, c.machine, nil, want)
		if c.fits {
			checkDecodeRefused(t, c.what, summed(bytesOf(c.machine)...), api.ErrForm)
		}
	}
}

// What is handed in stays as it is, the spare room of its lists too, and does not count.
func TestMachinesStayAsTheyAre(t *testing.T) {
	wrong := api.Arc{In: -1, Out: -1, Weight: -1, To: -1}
	arcs := []api.Arc{{To: 1}, {To: 0, In: 5}, wrong}
	states := []api.State{{Final: inf, Arcs: arcs[:1]}, {Final: 4, Arcs: arcs[1:2]}, {Final: -1, Arcs: arcs[2:]}}
	keptArcs, keptStates := slices.Clone(arcs), slices.Clone(states)
	m := machine(0, state(inf, [4]int{0, 0, 0, 1}), state(4, [4]int{5, 0, 0, 0}))
	checkEncode(t, "with spare room", api.Machine{States: states[:2]}, summed(bytesOf(m)...), api.OK)
	if !slices.Equal(arcs, keptArcs) {
		t.Errorf("the arcs became %v", arcs)
	}
	if !reflect.DeepEqual(states, keptStates) {
		t.Errorf("the states became %v", states)
	}
}

// What is handed in stays as it is, its spare room too, which does not count.
func TestBytesStayAsTheyAre(t *testing.T) {
	b := summed(bytesOf(drawn(4))...)
	room := append(slices.Clone(b), 1, 2, 3, 4, 5)
	kept := slices.Clone(room)
	checkDecode(t, "with spare room", room[:len(b)], drawn(4))
	checkDecodeRefused(t, "cut off", room[:len(b)-1], api.ErrSum)
	if !bytes.Equal(room, kept) {
		t.Errorf("the bytes became % x", room)
	}
}

// An answer is new memory, its spare room too, and no two of its lists share any.
func TestWhatIsDecodedIsNewMemory(t *testing.T) {
	b := summed(bytesOf(drawn(7))...)
	first, _ := Decode(b)
	second, _ := Decode(b)
	spoilStates(first.States)
	for q := range second.States {
		m, _ := Decode(b)
		spoilArcs(m.States[q].Arcs)
		m.States[q] = second.States[q]
		if !alike(m, drawn(7)) {
			t.Errorf("the arcs of state %d share memory with others: %v", q, m)
		}
	}
	clear(b)
	if !alike(second, drawn(7)) {
		t.Errorf("an answer shares memory: %v", second)
	}
}

func TestWhatIsEncodedIsNewMemory(t *testing.T) {
	m := drawn(8)
	first, _ := Encode(m)
	second, _ := Encode(m)
	clear(first[:cap(first)])
	if !alike(m, drawn(8)) {
		t.Errorf("the machine became %v", m)
	}
	spoilStates(m.States)
	if !bytes.Equal(second, summed(bytesOf(drawn(8))...)) {
		t.Errorf("an answer shares memory: % x", second)
	}
}

func spoilStates(l []api.State) {
	l = l[:cap(l)]
	for q := range l {
		spoilArcs(l[q].Arcs)
		l[q].Final = -7
	}
}

func spoilArcs(l []api.Arc) {
	l = l[:cap(l)]
	for i := range l {
		l[i] = api.Arc{In: -7, Out: -7, Weight: -7, To: -7}
	}
}

// Nothing is kept from call to call.
func TestNothingIsKept(t *testing.T) {
	m := machine(0, state(inf, [4]int{2, 3, 4, 1}), state(0))
	checkEncode(t, "at first", m, summed(bytesOf(m)...), api.OK)
	m.States[0].Arcs[0].Weight = 5
	m.Start = 1
	checkEncode(t, "changed", m, summed(bytesOf(m)...), api.OK)
	checkDecodeRefused(t, "ends too early", summed(0x54, 3, 1, 0, 0), api.ErrForm)
	checkDecode(t, "right behind a wrong one", summed(0x54, 0, 0), machine(-1))
}
