package names

import (
	"iter"
	"strconv"
	"strings"

	"tropica/api"
)

func isText(s string) bool {
	if len(s) < 1 || len(s) > api.MaxName {
		return false
	}
	for i, r := range s {
		digit := '0' <= r && r <= '9'
		letter := 'a' <= r && r <= 'z' || r == '_'
		if !letter && !(digit && i > 0) {
			return false
		}
	}
	return true
}

// lines of a text, without their line feeds; what stands behind the last line feed is one too, unless it is empty.
func lines(s string) iter.Seq[string] {
	return func(yield func(string) bool) {
		rest, line := s, ""
		for rest != "" {
			line, rest, _ = strings.Cut(rest, "\n")
			if !yield(line) {
				return
			}
		}
	}
}

// nameOf a line, if it has the parts of one; whether a table may hold it is not asked here.
func nameOf(line string) (api.Name, bool) {
	text, digits, _ := strings.Cut(line, " ")
	label, err := strconv.Atoi(digits)
	if err != nil { // so it is, too, where there is no blank
		return api.Name{}, false
	}
	// An answer shares no memory with what was handed in.
	return api.Name{Text: strings.Clone(text), Label: label}, true
}
