package names

import (
	"sync"

	"tropica/api"
)

// index of a table: where a text and where a label stands in it. It is not made before it is asked,
// since a table that is refused for its size or for a name of its own needs none.
type index struct {
	table   []api.Name
	once    sync.Once
	byText  map[string]int
	byLabel map[int]int
}

func (x *index) fill() {
	x.once.Do(func() {
		x.byText = make(map[string]int, len(x.table))
		x.byLabel = make(map[int]int, len(x.table))
		for i, n := range x.table {
			x.byText[n.Text] = i
			x.byLabel[n.Label] = i
		}
	})
}

func (x *index) placeOfText(text string) (int, bool) {
	x.fill()
	place, ok := x.byText[text]
	return place, ok
}

func (x *index) placeOfLabel(label int) (int, bool) {
	x.fill()
	place, ok := x.byLabel[label]
	return place, ok
}

// hasTwice: names that share a text or a label stand under one key.
func (x *index) hasTwice() bool {
	x.fill()
	return len(x.byText) < len(x.table) || len(x.byLabel) < len(x.table)
}

// indexed tells why a table is not right, or its index: who has it checked need not make it again.
func indexed(l []api.Name) (*index, api.Errno) {
	if len(l) > api.MaxNames {
		return nil, api.ErrSize
	}
	for _, n := range l {
		if n.Label < 1 || n.Label > api.MaxLabel {
			return nil, api.ErrRange
		}
	}
	for _, n := range l {
		if !isText(n.Text) {
			return nil, api.ErrName
		}
	}
	x := &index{table: l}
	if x.hasTwice() {
		return nil, api.ErrTwice
	}
	return x, api.OK
}
