package paper

import (
	"iter"
	"strconv"
	"strings"

	"tropica/api"
	"tropica/weight"
)

// lines of a text, each as its words, without the line feed; what stands behind the last line feed is one too, unless it is empty.
func lines(s string) iter.Seq[[]string] {
	return func(yield func([]string) bool) {
		rest, line := s, ""
		for rest != "" {
			line, rest, _ = strings.Cut(rest, "\n")
			if !yield(strings.Split(line, " ")) {
				return
			}
		}
	}
}

// add what a line says, if it has the parts of one; whether it may stand there, and so, is not asked here.
func add(m *api.Machine, words []string) bool {
	switch {
	case words[0] == startWord && len(words) == 2:
		return addStart(m, words[1])
	case words[0] == stateWord && len(words) == 2:
		return addState(m, words[1])
	case words[0] == arcWord && len(words) == 5:
		return addArc(m, words[1:])
	}
	return false
}

func addStart(m *api.Machine, word string) bool {
	if word == noStart {
		m.Start = -1
		return true
	}
	q, err := strconv.Atoi(word)
	m.Start = q
	return err == nil
}

func addState(m *api.Machine, word string) bool {
	final, err := weight.Read(word)
	m.States = append(m.States, api.State{Final: final})
	return err == api.OK
}

// addArc to the last state, the one whose line stands above.
func addArc(m *api.Machine, words []string) bool {
	if len(m.States) == 0 {
		return false
	}
	var n [4]int
	for i := range n {
		k, err := strconv.Atoi(words[i])
		if err != nil {
			return false
		}
		n[i] = k
	}
	s := &m.States[len(m.States)-1]
	s.Arcs = append(s.Arcs, api.Arc{To: n[0], In: n[1], Out: n[2], Weight: n[3]})
	return true
}
