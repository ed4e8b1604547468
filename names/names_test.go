package names

import (
	"math"
	"slices"
	"strconv"
	"strings"
	"testing"
	"unsafe"

	"tropica/api"
)

// many: n names that are right, of all labels from the first on.
func many(n int) []api.Name {
	var l []api.Name
	for i := range n {
		l = append(l, api.Name{Text: "n" + strconv.Itoa(i), Label: i + 1})
	}
	return l
}

func with(l []api.Name, more ...api.Name) []api.Name {
	return append(slices.Clone(l), more...)
}

var (
	few     = []api.Name{{Text: "b", Label: 2}, {Text: "a", Label: 1}, {Text: "long_name_12", Label: api.MaxLabel}, {Text: "_", Label: 10}}
	fewText = "b 2\na 1\nlong_name_12 1000\n_ 10\n"
)

var rightTables = [][]api.Name{
	nil, {},
	{{Text: "a", Label: 1}},
	{{Text: "z", Label: api.MaxLabel}},
	{{Text: "_", Label: 5}, {Text: "__", Label: 4}, {Text: "_9", Label: 3}, {Text: "a0", Label: 2}},
	{{Text: "abcdefghijkl", Label: 1}, {Text: "mnopqrstuvwx", Label: 2}, {Text: "yz_012345678", Label: 3}, {Text: "x9", Label: 4}},
	few,
	many(api.MaxNames),
}

type wrongTable struct {
	what  string
	table []api.Name
	want  api.Errno
}

func wrongTables() []wrongTable {
	out := []wrongTable{
		{"one too many", many(api.MaxNames + 1), api.ErrSize},
		{"far too many", many(5000), api.ErrSize},
		{"too many, one out of range", with(many(api.MaxNames), api.Name{Text: "x", Label: -1}), api.ErrSize},
		{"too many, one without a text", with(many(api.MaxNames), api.Name{Label: 500}), api.ErrSize},
		{"too many, one twice", with(many(api.MaxNames), many(1)...), api.ErrSize},
		{"a text is wrong ahead of a label", []api.Name{{Text: "1a", Label: 1}, {Text: "a", Label: 0}}, api.ErrRange},
		{"a text and a label are wrong", []api.Name{{Text: "1a", Label: api.MaxLabel + 1}}, api.ErrRange},
		{"twice ahead of a label", []api.Name{{Text: "a", Label: 1}, {Text: "a", Label: 1}, {Text: "b", Label: 1001}}, api.ErrRange},
		{"the same label, out of range", []api.Name{{Text: "a"}, {Text: "b"}}, api.ErrRange},
		{"twice ahead of a text", []api.Name{{Text: "a", Label: 1}, {Text: "a", Label: 1}, {Text: "A", Label: 2}}, api.ErrName},
		{"the same text, no name", []api.Name{{Label: 1}, {Label: 2}}, api.ErrName},
		{"the same text", []api.Name{{Text: "a", Label: 1}, {Text: "a", Label: 2}}, api.ErrTwice},
		{"the same label", []api.Name{{Text: "a", Label: 1}, {Text: "b", Label: 1}}, api.ErrTwice},
		{"the same name", []api.Name{{Text: "a", Label: 1}, {Text: "a", Label: 1}}, api.ErrTwice},
		{"the same text, far away", with(many(api.MaxNames-1), api.Name{Text: "n0", Label: 1000}), api.ErrTwice},
		{"the same label, far away", with(many(api.MaxNames-1), api.Name{Text: "x", Label: 1}), api.ErrTwice},
	}
	for _, label := range []int{0, -1, api.MaxLabel + 1, math.MinInt, math.MaxInt, 1<<32 + 1} {
		out = append(out,
			wrongTable{"label " + strconv.Itoa(label), []api.Name{{Text: "a", Label: label}}, api.ErrRange},
			wrongTable{"last label " + strconv.Itoa(label), with(few, api.Name{Text: "x", Label: label}), api.ErrRange})
	}
	for _, text := range wrongTexts() {
		out = append(out,
			wrongTable{"text " + strconv.Quote(text), []api.Name{{Text: text, Label: 3}}, api.ErrName},
			wrongTable{"last text " + strconv.Quote(text), with(few, api.Name{Text: text, Label: 3}), api.ErrName})
	}
	return out
}

// wrongTexts: lengths, and every byte that no text may have, at its beginning and behind.
func wrongTexts() []string {
	out := []string{"", "thirteenbytes", strings.Repeat("a", 5000), "\u00e4", "a\u00e4", "\u212a", "\U0001d51e", "\xff", "a\xffb", "a\x00", "a ", "a\n", "9a", "0", "9"}
	for c := range 256 {
		if b := byte(c); !strings.ContainsRune("abcdefghijklmnopqrstuvwxyz_0123456789", rune(b)) {
			out = append(out, string([]byte{b}), string([]byte{'a', b}), string([]byte{'a', b, 'z'}))
		}
	}
	return out
}

// P3.1
func TestCheckTellsTablesThatAreRight(t *testing.T) {
	for _, l := range rightTables {
		if err := Check(l); err != api.OK {
			t.Errorf("Check(%v) is %v", l, err)
		}
	}
	for c := range 256 {
		b := byte(c)
		letter := strings.ContainsRune("abcdefghijklmnopqrstuvwxyz_", rune(b))
		digit := strings.ContainsRune("0123456789", rune(b))
		if got := Check([]api.Name{{Text: string([]byte{b}), Label: 1}}) == api.OK; got != letter {
			t.Errorf("is the byte %d a text: %v", c, got)
		}
		if got := Check([]api.Name{{Text: string([]byte{'q', b}), Label: 1}}) == api.OK; got != (letter || digit) {
			t.Errorf("may the byte %d stand behind: %v", c, got)
		}
	}
}

// P3.1
func TestCheckRefuses(t *testing.T) {
	for _, c := range wrongTables() {
		if err := Check(c.table); err != c.want {
			t.Errorf("%s: Check is %v, want %v", c.what, err, c.want)
		}
	}
}

// P3.1
func TestAllRefuseWhatCheckRefuses(t *testing.T) {
	for _, c := range wrongTables() {
		for _, text := range []string{"a", "n0", "", "none"} {
			if label, err := Find(c.table, text); label != 0 || err != c.want {
				t.Errorf("%s: Find of %q is %d, %v, want 0, %v", c.what, text, label, err, c.want)
			}
		}
		for _, label := range []int{1, 2, 0, -1, 999} {
			if text, err := Of(c.table, label); text != "" || err != c.want {
				t.Errorf("%s: Of %d is %q, %v, want no text, %v", c.what, label, text, err, c.want)
			}
		}
		if s, err := Show(c.table); s != "" || err != c.want {
			t.Errorf("%s: Show is %q, %v, want no text, %v", c.what, s, err, c.want)
		}
	}
}

// P3.2
func TestFind(t *testing.T) {
	for _, l := range rightTables {
		for _, n := range l {
			if label, err := Find(l, n.Text); label != n.Label || err != api.OK {
				t.Errorf("Find of %q is %d, %v, want %d", n.Text, label, err, n.Label)
			}
		}
		for _, text := range []string{"none", "", "B", "b ", " b", "b\n", "b 2", "ab", "long_name_1", "long_name_123", "2", "\xff"} {
			if label, err := Find(l, text); label != 0 || err != api.ErrNone {
				t.Errorf("Find of %q is %d, %v, want 0, ErrNone", text, label, err)
			}
		}
	}
}

// P3.3
func TestOf(t *testing.T) {
	for _, l := range rightTables {
		for _, n := range l {
			if text, err := Of(l, n.Label); text != n.Text || err != api.OK {
				t.Errorf("Of %d is %q, %v, want %q", n.Label, text, err, n.Text)
			}
		}
		for _, label := range []int{0, -1, 777, api.MaxLabel + 1, math.MinInt, math.MaxInt, 1<<32 + 1} {
			if text, err := Of(l, label); text != "" || err != api.ErrNone {
				t.Errorf("Of %d is %q, %v, want no text, ErrNone", label, text, err)
			}
		}
	}
}

// P3.4
func TestShow(t *testing.T) {
	for _, c := range []struct {
		table []api.Name
		want  string
	}{
		{nil, ""},
		{[]api.Name{}, ""},
		{[]api.Name{{Text: "a", Label: 1}, {Text: "b", Label: 2}}, "a 1\nb 2\n"},
		{[]api.Name{{Text: "b", Label: 2}, {Text: "a", Label: 1}}, "b 2\na 1\n"},
		{[]api.Name{{Text: "z", Label: 100}, {Text: "y", Label: 20}}, "z 100\ny 20\n"},
		{few, fewText},
	} {
		if s, err := Show(c.table); s != c.want || err != api.OK {
			t.Errorf("Show(%v) is %q, %v, want %q", c.table, s, err, c.want)
		}
	}
}

// P3.5
func TestReadTellsWhatWasShown(t *testing.T) {
	for _, l := range rightTables {
		s, _ := Show(l)
		if got, err := Read(s); !slices.Equal(got, l) || err != api.OK {
			t.Errorf("Read(%q) is %v, %v, want %v", s, got, err, l)
		}
	}
	if got, err := Read(fewText); !slices.Equal(got, few) || err != api.OK {
		t.Errorf("Read(%q) is %v, %v, want %v", fewText, got, err, few)
	}
}

// P3.5
func TestReadRefusesOtherForms(t *testing.T) {
	for _, s := range []string{
		"a 1", "a 1\nb 2", "a", "a\n", "\n", "\n\n", " ", "a 1\n\n", "\na 1\n", "a 1\n\nb 2\n",
		" a 1\n", "a  1\n", "a 1 \n", "a 1 2\n", "a\t1\n", "a 1\r\n", "a1\n", "a 1\x00\n", "a 1\nb 2\x00",
		"a \n", " 1\n", "1 a\n", "a b\n", "a 01\n", "a +1\n", "a -1\n", "a 1.0\n", "a 1_0\n", "a 0x1\n", "a 1e1\n", "a \u0661\n",
		"a 0\n", "a 1001\n", "a 00\n", "a -0\n", "a 18446744073709551617\n", "a 4294967297\n", "a 99999999999999999999999999\n",
		"A 1\n", "1a 1\n", "thirteenbytes 1\n", "\u00e4 1\n", "\xff 1\n", "a-b 1\n",
		"a 1\na 2\n", "a 1\nb 1\n", "a 1\na 1\n", "b 2\na 1\nb 3\n",
		"\ufeffa 1\n", "a 1\n# b 2\n", "a,1\n",
	} {
		if got, err := Read(s); len(got) != 0 || err != api.ErrForm {
			t.Errorf("Read(%q) is %v, %v, want nothing, ErrForm", s, got, err)
		}
	}
}

// P3.5
func TestReadOfTooMany(t *testing.T) {
	s, _ := Show(many(api.MaxNames))
	if got, err := Read(s + "x 999\n"); len(got) != 0 || err != api.ErrForm {
		t.Errorf("Read of %d lines is %v, %v, want nothing, ErrForm", api.MaxNames+1, got, err)
	}
	for _, c := range []struct {
		s    string
		want api.Errno
	}{
		{strings.Repeat("\n", api.MaxText), api.ErrForm},
		{strings.Repeat("\n", api.MaxText+1), api.ErrSize},
		{strings.Repeat("a 1\n", api.MaxText/4), api.ErrForm},
		{strings.Repeat("a 1\n", api.MaxText/4) + "b", api.ErrSize},
		{"a 1\n" + strings.Repeat("x", api.MaxText), api.ErrSize},
		{"a " + strings.Repeat("0", api.MaxText-4) + "1\n", api.ErrForm},
	} {
		if got, err := Read(c.s); len(got) != 0 || err != c.want {
			t.Errorf("Read of %d bytes is %v, %v, want nothing, %v", len(c.s), got, err, c.want)
		}
	}
}

// P3.5: a text is read only if its table is shown as that very text.
func TestReadOfEveryChangeOfOneByte(t *testing.T) {
	for at := range fewText {
		for c := range 256 {
			b := []byte(fewText)
			b[at] = byte(c)
			checkReadOrRefused(t, string(b))
		}
		checkReadOrRefused(t, fewText[:at])
		checkReadOrRefused(t, fewText[:at]+fewText[at+1:])
		checkReadOrRefused(t, fewText[at:])
	}
}

func checkReadOrRefused(t *testing.T, s string) {
	t.Helper()
	l, err := Read(s)
	if err != api.OK {
		if err != api.ErrForm || len(l) != 0 {
			t.Errorf("Read(%q) is %v, %v, want nothing, ErrForm", s, l, err)
		}
		return
	}
	if shown, err := Show(l); shown != s || err != api.OK {
		t.Errorf("Read(%q) is %v, which is shown as %q, %v", s, l, shown, err)
	}
}

// The table that is handed in stays as it is, its spare room too.
func TestTablesStayAsTheyAre(t *testing.T) {
	room := with(few, api.Name{Text: "spare", Label: 77})
	kept := slices.Clone(room)
	l := room[:len(few)]
	Check(l)
	Find(l, "a")
	Find(l, "spare")
	Of(l, 1)
	Show(l)
	if !slices.Equal(room, kept) {
		t.Errorf("the table became %v, it was %v", room, kept)
	}
	if label, err := Find(l, "spare"); label != 0 || err != api.ErrNone {
		t.Errorf("Find looks into the spare room: %d, %v", label, err)
	}
}

// Nothing is kept from call to call: a table that was changed is another one.
func TestNothingIsKept(t *testing.T) {
	l := slices.Clone(few)
	Find(l, "b")
	l[0] = api.Name{Text: "c", Label: 3}
	if label, err := Find(l, "c"); label != 3 || err != api.OK {
		t.Errorf("Find of c is %d, %v, want 3", label, err)
	}
	if label, err := Find(l, "b"); label != 0 || err != api.ErrNone {
		t.Errorf("Find of b is %d, %v, want 0, ErrNone", label, err)
	}
	if text, err := Of(l, 2); text != "" || err != api.ErrNone {
		t.Errorf("Of 2 is %q, %v, want no text, ErrNone", text, err)
	}
	first, _ := Read("a 1\nb 2\n")
	second, _ := Read("a 1\nb 2\n")
	first[0].Label = 9
	if second[0].Label != 1 {
		t.Errorf("two tables that were read share memory")
	}
}

// What is answered shares no memory with what was handed in.
func TestTextsAreNew(t *testing.T) {
	l := slices.Clone(few)
	if text, _ := Of(l, 2); unsafe.StringData(text) == unsafe.StringData(l[0].Text) {
		t.Errorf("Of answers the memory of the table's text")
	}
	s := strings.Clone(fewText)
	if got, _ := Read(s); unsafe.StringData(got[0].Text) == unsafe.StringData(s) {
		t.Errorf("Read answers the memory of the text")
	}
}

// An index is made when it is first asked, and not again.
func TestIndexIsMadeOnce(t *testing.T) {
	x := &index{table: slices.Clone(few)}
	if x.byText != nil || x.byLabel != nil {
		t.Errorf("the index is there ahead of the first question")
	}
	x.placeOfText("a")
	x.table[1].Text = "other"
	if place, ok := x.placeOfText("a"); place != 1 || !ok {
		t.Errorf("the index was made again: %d, %v", place, ok)
	}
}

func TestLinesEndWhenNoMoreAreWanted(t *testing.T) {
	var got []string
	for line := range lines("a\nb\nc\n") {
		if got = append(got, line); len(got) == 2 {
			break
		}
	}
	if !slices.Equal(got, []string{"a", "b"}) {
		t.Errorf("the first two lines are %q", got)
	}
}
