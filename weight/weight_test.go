package weight

import (
	"math"
	"slices"
	"strings"
	"testing"

	"tropica/api"
)

// noWeights: numbers at and far beyond both bounds.
var noWeights = []int{-1, api.Inf + 1, 2000000000, math.MinInt, math.MaxInt, -api.Inf, 1 << 32}

// someWeights: both ends, Inf, and ones between.
var someWeights = []int{0, 1, 2, 3, 5, 499999999, 500000000, 500000001, api.MaxWeight - 1, api.MaxWeight, api.Inf}

type pairCase struct {
	a, b, want int
	err        api.Errno
}

func checkPairs(t *testing.T, name string, f func(a, b int) (int, api.Errno), cases []pairCase) {
	t.Helper()
	for _, c := range cases {
		if got, err := f(c.a, c.b); got != c.want || err != c.err {
			t.Errorf("%s(%d, %d) is %d, %v, want %d, %v", name, c.a, c.b, got, err, c.want, c.err)
		}
	}
}

// P1.1
func TestNumbersThatAreNoWeights(t *testing.T) {
	pairs := map[string]func(a, b int) (int, api.Errno){"Plus": Plus, "Times": Times, "Over": Over}
	for _, bad := range noWeights {
		for name, f := range pairs {
			for _, good := range someWeights {
				checkPairs(t, name, f, []pairCase{
					{bad, good, 0, api.ErrRange},
					{good, bad, 0, api.ErrRange},
					{bad, bad, 0, api.ErrRange},
				})
			}
		}
		for _, l := range [][]int{{bad}, {0, bad}, {bad, 0}, {3, bad, api.Inf}} {
			if got, err := Sum(l); got != 0 || err != api.ErrRange {
				t.Errorf("Sum(%v) is %d, %v", l, got, err)
			}
		}
		if got, err := Show(bad); got != "" || err != api.ErrRange {
			t.Errorf("Show(%d) is %q, %v", bad, got, err)
		}
	}
}

// P1.1
func TestWeightsAreTaken(t *testing.T) {
	for _, w := range someWeights {
		if _, err := Plus(w, w); err != api.OK {
			t.Errorf("Plus(%d, %d): %v", w, w, err)
		}
		if _, err := Times(w, 0); err != api.OK {
			t.Errorf("Times(%d, 0): %v", w, err)
		}
		if _, err := Over(w, 0); err != api.OK {
			t.Errorf("Over(%d, 0): %v", w, err)
		}
		if _, err := Sum([]int{w}); err != api.OK {
			t.Errorf("Sum of %d: %v", w, err)
		}
		if _, err := Show(w); err != api.OK {
			t.Errorf("Show(%d): %v", w, err)
		}
	}
}

// P1.2
func TestPlus(t *testing.T) {
	checkPairs(t, "Plus", Plus, []pairCase{
		{3, 5, 3, api.OK},
		{5, 3, 3, api.OK},
		{4, 4, 4, api.OK},
		{0, 0, 0, api.OK},
		{0, api.MaxWeight, 0, api.OK},
		{api.MaxWeight, api.Inf, api.MaxWeight, api.OK},
		{api.Inf, api.MaxWeight, api.MaxWeight, api.OK},
		{api.Inf, 0, 0, api.OK},
		{api.Inf, api.Inf, api.Inf, api.OK},
	})
}

// P1.3
func TestTimes(t *testing.T) {
	checkPairs(t, "Times", Times, []pairCase{
		{3, 5, 8, api.OK},
		{5, 3, 8, api.OK},
		{0, 0, 0, api.OK},
		{api.MaxWeight, 0, api.MaxWeight, api.OK},
		{api.MaxWeight - 1, 1, api.MaxWeight, api.OK},
		{500000000, 500000000, api.MaxWeight, api.OK},
		{500000000, 500000001, 0, api.ErrOver},
		{api.MaxWeight, 1, 0, api.ErrOver},
		{1, api.MaxWeight, 0, api.ErrOver},
		{api.MaxWeight, api.MaxWeight, 0, api.ErrOver},
		{api.Inf, 0, api.Inf, api.OK},
		{0, api.Inf, api.Inf, api.OK},
		{api.Inf, api.MaxWeight, api.Inf, api.OK},
		{api.MaxWeight, api.Inf, api.Inf, api.OK},
		{api.Inf, api.Inf, api.Inf, api.OK},
	})
}

// P1.4
func TestOver(t *testing.T) {
	checkPairs(t, "Over", Over, []pairCase{
		{5, 3, 2, api.OK},
		{3, 3, 0, api.OK},
		{0, 0, 0, api.OK},
		{api.MaxWeight, 0, api.MaxWeight, api.OK},
		{api.MaxWeight, api.MaxWeight, 0, api.OK},
		{api.Inf, 0, api.Inf, api.OK},
		{api.Inf, 1, api.Inf, api.OK},
		{api.Inf, api.MaxWeight, api.Inf, api.OK},
		{3, 5, 0, api.ErrNone},
		{0, 1, 0, api.ErrNone},
		{api.MaxWeight - 1, api.MaxWeight, 0, api.ErrNone},
		{0, api.Inf, 0, api.ErrNone},
		{api.MaxWeight, api.Inf, 0, api.ErrNone},
		{api.Inf, api.Inf, 0, api.ErrNone},
	})
}

// P1.4
func TestOverIsWhatTimesHasToPut(t *testing.T) {
	for _, a := range someWeights {
		for _, b := range someWeights {
			left, err := Over(a, b)
			if err != api.OK {
				continue
			}
			if back, err := Times(left, b); back != a || err != api.OK {
				t.Errorf("Over(%d, %d) is %d, but Times makes %d, %v of it", a, b, left, back, err)
			}
		}
	}
}

// P1.5
func TestSum(t *testing.T) {
	most := slices.Repeat([]int{7}, api.MaxArcs)
	tooMany := slices.Repeat([]int{7}, api.MaxArcs+1)
	lastIsLeast := slices.Clone(most)
	lastIsLeast[api.MaxArcs-1] = 6
	lastIsNone := slices.Clone(most)
	lastIsNone[api.MaxArcs-1] = -1
	tooManyAndNone := slices.Clone(tooMany)
	tooManyAndNone[0] = -1
	for _, c := range []struct {
		name string
		l    []int
		want int
		err  api.Errno
	}{
		{"nil", nil, api.Inf, api.OK},
		{"none", []int{}, api.Inf, api.OK},
		{"one", []int{4}, 4, api.OK},
		{"only Inf", []int{api.Inf, api.Inf}, api.Inf, api.OK},
		{"least first", []int{2, 9, api.Inf}, 2, api.OK},
		{"least between", []int{9, 0, 3}, 0, api.OK},
		{"least last", []int{api.Inf, api.MaxWeight}, api.MaxWeight, api.OK},
		{"most", most, 7, api.OK},
		{"most, least last", lastIsLeast, 6, api.OK},
		{"most, last is none", lastIsNone, 0, api.ErrRange},
		{"too many", tooMany, 0, api.ErrSize},
		{"too many and one is none", tooManyAndNone, 0, api.ErrSize},
	} {
		if got, err := Sum(c.l); got != c.want || err != c.err {
			t.Errorf("Sum of %s is %d, %v, want %d, %v", c.name, got, err, c.want, c.err)
		}
	}
}

// P1.5: a list that is handed in is not changed, its spare room neither.
func TestSumLeavesTheList(t *testing.T) {
	room := []int{5, 2, 8, 1, 9}
	kept := slices.Clone(room)
	if got, err := Sum(room[1:3:5]); got != 2 || err != api.OK {
		t.Errorf("Sum is %d, %v", got, err)
	}
	if !slices.Equal(room, kept) {
		t.Errorf("the list became %v", room)
	}
}

// P1.6
func TestShow(t *testing.T) {
	for _, c := range []struct {
		w    int
		want string
	}{
		{0, "0"},
		{7, "7"},
		{10, "10"},
		{1234567, "1234567"},
		{api.MaxWeight, "1000000000"},
		{api.Inf, "inf"},
	} {
		if got, err := Show(c.w); got != c.want || err != api.OK {
			t.Errorf("Show(%d) is %q, %v, want %q", c.w, got, err, c.want)
		}
	}
}

// P1.7
func TestRead(t *testing.T) {
	for _, c := range []struct {
		s    string
		want int
		err  api.Errno
	}{
		{"0", 0, api.OK},
		{"9", 9, api.OK},
		{"10", 10, api.OK},
		{"999999999", 999999999, api.OK},
		{"1000000000", api.MaxWeight, api.OK},
		{"inf", api.Inf, api.OK},
		{"1000000001", 0, api.ErrOver},
		{"9999999999", 0, api.ErrOver},
		{"999999999999", 0, api.ErrOver},
		{"0123456789012", 0, api.ErrSize},
		{"1000000000000", 0, api.ErrSize},
		{"infinfinfinfi", 0, api.ErrSize},
		{strings.Repeat("x", api.MaxNumber+1), 0, api.ErrSize},
		{strings.Repeat("9", 100000), 0, api.ErrSize},
		{strings.Repeat("x", api.MaxNumber), 0, api.ErrForm},
		{"012345678901", 0, api.ErrForm},
		{"", 0, api.ErrForm},
		{"00", 0, api.ErrForm},
		{"007", 0, api.ErrForm},
		{"-1", 0, api.ErrForm},
		{"-0", 0, api.ErrForm},
		{"+1", 0, api.ErrForm},
		{" 1", 0, api.ErrForm},
		{"1 ", 0, api.ErrForm},
		{"1\n", 0, api.ErrForm},
		{"1_0", 0, api.ErrForm},
		{"0x1", 0, api.ErrForm},
		{"1e3", 0, api.ErrForm},
		{"1.0", 0, api.ErrForm},
		{"/", 0, api.ErrForm},
		{":", 0, api.ErrForm},
		{"9999999999x", 0, api.ErrForm},
		{"Inf", 0, api.ErrForm},
		{"inf ", 0, api.ErrForm},
		{"in", 0, api.ErrForm},
		{"\x00", 0, api.ErrForm},
		{"\xff", 0, api.ErrForm},
		{"\u0661", 0, api.ErrForm},
	} {
		if got, err := Read(c.s); got != c.want || err != c.err {
			t.Errorf("Read(%.20q) is %d, %v, want %d, %v", c.s, got, err, c.want, c.err)
		}
	}
}

// P1.6, P1.7
func TestWhatIsShownIsRead(t *testing.T) {
	for _, w := range someWeights {
		s, _ := Show(w)
		if got, err := Read(s); got != w || err != api.OK {
			t.Errorf("%d is shown as %q and read as %d, %v", w, s, got, err)
		}
	}
}

// chain: f of f of a and b and of c; the first refusal stays.
func chain(f, g func(a, b int) (int, api.Errno), a, b, c int) (int, api.Errno) {
	x, err := f(a, b)
	if err != api.OK {
		return 0, err
	}
	return g(x, c)
}

// P1.2, P1.3: what comes of it.
func TestSemiring(t *testing.T) {
	l := []int{0, 1, 3, 200000000, 333333333, api.Inf}
	for _, a := range l {
		for _, b := range l {
			for _, c := range l {
				for name, f := range map[string]func(a, b int) (int, api.Errno){"Plus": Plus, "Times": Times} {
					left, e := chain(f, f, a, b, c)
					right, g := chain(f, f, b, c, a)
					if left != right || e != api.OK || g != api.OK {
						t.Errorf("%s of %d, %d, %d: %d, %v or %d, %v", name, a, b, c, left, e, right, g)
					}
				}
				together, _ := chain(Plus, Times, a, b, c)
				x, _ := Times(a, c)
				y, _ := Times(b, c)
				if apart, _ := Plus(x, y); together != apart {
					t.Errorf("the lesser of %d, %d, then %d: %d or %d", a, b, c, together, apart)
				}
			}
		}
	}
}
