package least

import (
	"strconv"
	"strings"

	"tropica/api"
)

// kindsOf: of each state the number of its kind; two states are alike just if they are of one kind.
func kindsOf(m api.Machine) []int {
	// All are of one kind, until something differs. States that were told apart never come together again, so that kinds are final when there come to be no more of them.
	kinds, n := make([]int, len(m.States)), 1
	for {
		finer, more := toldApart(m, kinds)
		if more == n {
			return kinds
		}
		kinds, n = finer, more
	}
}

// toldApart: of each state the number of its sign, and how many signs there are.
func toldApart(m api.Machine, kinds []int) ([]int, int) {
	numbers := map[string]int{}
	finer := make([]int, len(m.States))
	for q, s := range m.States {
		sign := signOf(s, kinds)
		n, ok := numbers[sign]
		if !ok {
			n = len(numbers)
			numbers[sign] = n
		}
		finer[q] = n
	}
	return finer, len(numbers)
}

// signOf a state whose arcs are in order: two of them are the same just if nothing differs for the states but, maybe, to which states of one kind their arcs lead.
func signOf(s api.State, kinds []int) string {
	var sign strings.Builder
	write := func(numbers ...int) {
		for _, n := range numbers {
			sign.WriteString(strconv.Itoa(n))
			sign.WriteByte(' ')
		}
	}
	write(s.Final)
	for _, a := range s.Arcs {
		write(a.In, a.Out, a.Weight, kinds[a.To])
	}
	return sign.String()
}
