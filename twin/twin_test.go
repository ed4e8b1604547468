package twin

import (
	"math"
	"testing"

	"tropica/api"
)

const (
	most = api.MaxWeight
	inf  = api.Inf
)

var never = api.Twin{A: inf, B: inf}

// noTwins: each of the two at and far beyond both bounds, and only one of them Inf.
var noTwins = []api.Twin{
	{A: -1}, {B: -1}, {A: -1, B: -1},
	{A: inf}, {B: inf}, {A: inf, B: most}, {A: most, B: inf},
	{A: inf + 1}, {B: inf + 1}, {A: inf + 1, B: inf + 1}, {A: inf, B: inf + 1}, {A: inf + 1, B: inf},
	{A: inf, B: -1}, {A: -1, B: inf},
	{A: math.MinInt}, {B: math.MinInt}, {A: math.MaxInt}, {B: math.MaxInt}, {A: math.MaxInt, B: math.MaxInt},
	{A: 1 << 32}, {B: 1 << 32},
}

// someTwins: both ends, Inf, and ones between.
var someTwins = []api.Twin{
	{}, {B: 1}, {A: 1}, {A: 3, B: 9}, {A: 4}, {B: most}, {A: most}, {A: most, B: most},
	{A: most / 2, B: most/2 + 1}, {A: most - 1, B: 1}, never,
}

type pairCase struct {
	a, b, want api.Twin
	err        api.Errno
}

func checkPairs(t *testing.T, name string, f func(a, b api.Twin) (api.Twin, api.Errno), cases []pairCase) {
	t.Helper()
	for _, c := range cases {
		if got, err := f(c.a, c.b); got != c.want || err != c.err {
			t.Errorf("%s(%v, %v) is %v, %v, want %v, %v", name, c.a, c.b, got, err, c.want, c.err)
		}
	}
}

type powerCase struct {
	a    api.Twin
	n    int
	want api.Twin
	err  api.Errno
}

func checkPowers(t *testing.T, cases []powerCase) {
	t.Helper()
	for _, c := range cases {
		if got, err := Power(c.a, c.n); got != c.want || err != c.err {
			t.Errorf("Power(%v, %d) is %v, %v, want %v, %v", c.a, c.n, got, err, c.want, c.err)
		}
	}
}

// P2.1
func TestTwinsThatMayNotBe(t *testing.T) {
	for _, bad := range noTwins {
		for _, good := range someTwins {
			refused := []pairCase{
				{a: bad, b: good, err: api.ErrRange},
				{a: good, b: bad, err: api.ErrRange},
				{a: bad, b: bad, err: api.ErrRange},
			}
			checkPairs(t, "Plus", Plus, refused)
			checkPairs(t, "Times", Times, refused)
		}
		for _, n := range []int{-1, 0, 1, 2, most, most + 1} {
			checkPowers(t, []powerCase{{a: bad, n: n, err: api.ErrRange}})
		}
	}
}

// P2.1
func TestTwinsThatMayBe(t *testing.T) {
	for _, a := range someTwins {
		checkPairs(t, "Plus", Plus, []pairCase{{a, a, a, api.OK}})
		checkPairs(t, "Times", Times, []pairCase{{a, api.Twin{}, a, api.OK}, {api.Twin{}, a, a, api.OK}})
		checkPowers(t, []powerCase{{a, 1, a, api.OK}})
	}
}

// P2.2
func TestLess(t *testing.T) {
	for _, c := range []struct {
		a, b api.Twin
		want bool
	}{
		{api.Twin{A: 1, B: 5}, api.Twin{A: 1, B: 6}, true},
		{api.Twin{A: 1, B: 6}, api.Twin{A: 1, B: 5}, false},
		{api.Twin{A: 1, B: 5}, api.Twin{A: 1, B: 5}, false},
		{api.Twin{A: 1, B: 9}, api.Twin{A: 2, B: 0}, true},
		{api.Twin{A: 2, B: 0}, api.Twin{A: 1, B: 9}, false},
		{api.Twin{A: 1, B: 1}, api.Twin{A: 2, B: 2}, true},
		{api.Twin{A: 2, B: 2}, api.Twin{A: 1, B: 1}, false},
		{api.Twin{}, api.Twin{}, false},
		{api.Twin{A: most, B: most}, never, true},
		{never, api.Twin{A: most, B: most}, false},
		{never, never, false},
		// of any two: ones that may not be, too, and far apart
		{api.Twin{A: -1}, api.Twin{}, true},
		{api.Twin{B: -1}, api.Twin{}, true},
		{api.Twin{}, api.Twin{B: -1}, false},
		{api.Twin{A: inf, B: 3}, api.Twin{A: inf, B: 4}, true},
		{never, api.Twin{A: inf + 1}, true},
		{api.Twin{A: math.MinInt}, api.Twin{A: math.MaxInt}, true},
		{api.Twin{A: math.MaxInt}, api.Twin{A: math.MinInt}, false},
		{api.Twin{B: math.MinInt}, api.Twin{B: math.MaxInt}, true},
		{api.Twin{B: math.MaxInt}, api.Twin{B: math.MinInt}, false},
	} {
		if got := Less(c.a, c.b); got != c.want {
			t.Errorf("Less(%v, %v) is %v", c.a, c.b, got)
		}
	}
}

// P2.3
func TestPlus(t *testing.T) {
	checkPairs(t, "Plus", Plus, []pairCase{
		{api.Twin{A: 3, B: 9}, api.Twin{A: 4}, api.Twin{A: 3, B: 9}, api.OK},
		{api.Twin{A: 4}, api.Twin{A: 3, B: 9}, api.Twin{A: 3, B: 9}, api.OK},
		{api.Twin{A: 3, B: 9}, api.Twin{A: 3, B: 8}, api.Twin{A: 3, B: 8}, api.OK},
		{api.Twin{A: 3, B: 8}, api.Twin{A: 3, B: 9}, api.Twin{A: 3, B: 8}, api.OK},
		{api.Twin{A: 3, B: 8}, api.Twin{A: 3, B: 8}, api.Twin{A: 3, B: 8}, api.OK},
		{api.Twin{}, api.Twin{B: 1}, api.Twin{}, api.OK},
		{api.Twin{A: 1}, api.Twin{B: most}, api.Twin{B: most}, api.OK},
		{api.Twin{A: most, B: most}, never, api.Twin{A: most, B: most}, api.OK},
		{never, api.Twin{A: most, B: most}, api.Twin{A: most, B: most}, api.OK},
		{never, never, never, api.OK},
	})
}

// P2.4
func TestTimes(t *testing.T) {
	checkPairs(t, "Times", Times, []pairCase{
		{api.Twin{A: 3, B: 9}, api.Twin{A: 4, B: 2}, api.Twin{A: 7, B: 11}, api.OK},
		{api.Twin{A: 4, B: 2}, api.Twin{A: 3, B: 9}, api.Twin{A: 7, B: 11}, api.OK},
		{api.Twin{}, api.Twin{}, api.Twin{}, api.OK},
		{api.Twin{A: most - 1, B: 1}, api.Twin{A: 1, B: most - 1}, api.Twin{A: most, B: most}, api.OK},
		{api.Twin{A: most}, api.Twin{B: most}, api.Twin{A: most, B: most}, api.OK},
		{api.Twin{A: most}, api.Twin{A: 1}, api.Twin{}, api.ErrOver},
		{api.Twin{A: 1}, api.Twin{A: most}, api.Twin{}, api.ErrOver},
		{api.Twin{B: most}, api.Twin{A: 3, B: 1}, api.Twin{}, api.ErrOver},
		{api.Twin{A: 3, B: 1}, api.Twin{B: most}, api.Twin{}, api.ErrOver},
		{api.Twin{A: most, B: most}, api.Twin{A: most, B: most}, api.Twin{}, api.ErrOver},
		{never, api.Twin{}, never, api.OK},
		{api.Twin{}, never, never, api.OK},
		{never, api.Twin{A: most, B: most}, never, api.OK},
		{api.Twin{A: most, B: most}, never, never, api.OK},
		{never, never, never, api.OK},
	})
}

// P2.5
func TestPower(t *testing.T) {
	checkPowers(t, []powerCase{
		{api.Twin{A: 2}, 5, api.Twin{A: 10}, api.OK},
		{api.Twin{A: 2, B: 3}, 7, api.Twin{A: 14, B: 21}, api.OK},
		{api.Twin{A: 2, B: 3}, 8, api.Twin{A: 16, B: 24}, api.OK},
		{api.Twin{B: 1}, most, api.Twin{B: most}, api.OK},
		{api.Twin{A: 1}, most, api.Twin{A: most}, api.OK},
		{api.Twin{A: 1, B: 1}, most, api.Twin{A: most, B: most}, api.OK},
		{api.Twin{}, most, api.Twin{}, api.OK},
		{api.Twin{A: most, B: most}, 1, api.Twin{A: most, B: most}, api.OK},
		{api.Twin{A: most / 2}, 2, api.Twin{A: most}, api.OK},
		{api.Twin{B: 200000000}, 5, api.Twin{B: most}, api.OK},
		{api.Twin{A: 333333333}, 3, api.Twin{A: 999999999}, api.OK},
		{api.Twin{B: 1}, most - 1, api.Twin{B: most - 1}, api.OK},
		{api.Twin{A: 3, B: 9}, 0, api.Twin{}, api.OK},
		{api.Twin{A: most, B: most}, 0, api.Twin{}, api.OK},
		{never, 0, api.Twin{}, api.OK},
		{never, 1, never, api.OK},
		{never, 6, never, api.OK},
		{never, most, never, api.OK},
	})
}

// P2.5
func TestPowerIsTooMuch(t *testing.T) {
	checkPowers(t, []powerCase{
		{a: api.Twin{B: 2}, n: most, err: api.ErrOver},
		{a: api.Twin{A: 2}, n: most, err: api.ErrOver},
		{a: api.Twin{A: most, B: most}, n: most, err: api.ErrOver},
		{a: api.Twin{A: most}, n: 2, err: api.ErrOver},
		{a: api.Twin{B: most}, n: 2, err: api.ErrOver},
		{a: api.Twin{A: 2}, n: most/2 + 1, err: api.ErrOver},
		{a: api.Twin{A: most/2 + 1}, n: 2, err: api.ErrOver},
		{a: api.Twin{A: 1, B: 333333334}, n: 3, err: api.ErrOver},
		{a: api.Twin{A: 200000001, B: 1}, n: 5, err: api.ErrOver},
	})
}

// P2.5
func TestPowerOfNoNumber(t *testing.T) {
	for _, n := range []int{-1, most + 1, math.MinInt, math.MaxInt, 1 << 32, -most} {
		for _, a := range someTwins {
			checkPowers(t, []powerCase{{a: a, n: n, err: api.ErrRange}})
		}
	}
}

// P2.5: by Times, one by one, as long as it goes, and refused from then on.
func TestPowerIsManyTimes(t *testing.T) {
	l := []api.Twin{{A: 1}, {A: 2, B: 3}, {A: 12345678, B: 1}, {B: 31250000}, {A: 15873015, B: 15873016}, never}
	for _, a := range l {
		want, e := api.Twin{}, api.OK
		for n := range 70 {
			if got, err := Power(a, n); got != want || err != e {
				t.Errorf("Power(%v, %d) is %v, %v, want %v, %v", a, n, got, err, want, e)
			}
			if e == api.OK {
				want, e = Times(want, a)
			}
		}
	}
}

// P2.5: what comes of it.
func TestPowersAreAdded(t *testing.T) {
	for _, a := range []api.Twin{{}, {A: 1}, {A: 2, B: 3}, {A: 7, B: 10000000}, never} {
		for n := range 40 {
			for m := range 40 {
				x, _ := Power(a, n)
				y, _ := Power(a, m)
				apart, _ := Times(x, y)
				if together, err := Power(a, n+m); together != apart || err != api.OK {
					t.Errorf("%d and %d of %v are %v, but %d are %v, %v", n, m, a, apart, n+m, together, err)
				}
			}
		}
	}
}

// chain: f of a and b, and g of that and c; the first refusal stays.
func chain(f, g func(a, b api.Twin) (api.Twin, api.Errno), a, b, c api.Twin) (api.Twin, api.Errno) {
	x, err := f(a, b)
	if err != api.OK {
		return api.Twin{}, err
	}
	return g(x, c)
}

// P2.3, P2.4: what comes of it.
func TestSemiring(t *testing.T) {
	l := []api.Twin{{}, {B: 1}, {A: 1}, {A: 3, B: 9}, {A: 4, B: 2}, {A: 333333333, B: 200000000}, never}
	for _, a := range l {
		for _, b := range l {
			for _, c := range l {
				for name, f := range map[string]func(a, b api.Twin) (api.Twin, api.Errno){"Plus": Plus, "Times": Times} {
					left, e := chain(f, f, a, b, c)
					right, g := chain(f, f, b, c, a)
					if left != right || e != api.OK || g != api.OK {
						t.Errorf("%s of %v, %v, %v: %v, %v or %v, %v", name, a, b, c, left, e, right, g)
					}
				}
				together, _ := chain(Plus, Times, a, b, c)
				x, _ := Times(a, c)
				y, _ := Times(b, c)
				if apart, _ := Plus(x, y); together != apart {
					t.Errorf("the lesser of %v, %v, then %v: %v or %v", a, b, c, together, apart)
				}
			}
		}
	}
}
