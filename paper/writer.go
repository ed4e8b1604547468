package paper

import (
	"strconv"
	"strings"

	"tropica/api"
	"tropica/weight"
)

// What a line begins with, and what stands for a Start that is none.
const (
	startWord = "start"
	stateWord = "state"
	arcWord   = "arc"
	noStart   = "-"
)

// writer of a machine that is right, line by line.
type writer struct {
	strings.Builder
}

func (w *writer) start(q int) {
	if q < 0 {
		w.line(startWord, noStart)
		return
	}
	w.line(startWord, strconv.Itoa(q))
}

func (w *writer) state(final int) {
	// A Final of a machine that is right is a weight, which is never refused.
	text, _ := weight.Show(final)
	w.line(stateWord, text)
}

func (w *writer) arc(a api.Arc) {
	w.line(arcWord, strconv.Itoa(a.To), strconv.Itoa(a.In), strconv.Itoa(a.Out), strconv.Itoa(a.Weight))
}

func (w *writer) line(words ...string) {
	w.WriteString(strings.Join(words, " "))
	w.WriteString("\n")
}
