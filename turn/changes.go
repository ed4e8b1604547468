package turn

import "tropica/api"

// changes of labels: to each one that is changed, what it becomes.
type changes map[int]int

// changesOf a list, or why it is refused.
func changesOf(list []api.Change) (changes, api.Errno) {
	if len(list) > api.MaxRelabel {
		return nil, api.ErrSize
	}
	for _, c := range list {
		if !isInRange(c) {
			return nil, api.ErrRange
		}
	}
	found := make(changes, len(list))
	for _, c := range list {
		found[c.From] = c.To
	}
	// Changes that share a From stand under one key.
	if len(found) < len(list) {
		return nil, api.ErrTwice
	}
	return found, api.OK
}

// isInRange: a label may become the empty one, but the empty one stays.
func isInRange(c api.Change) bool {
	return 1 <= c.From && c.From <= api.MaxLabel && api.Empty <= c.To && c.To <= api.MaxLabel
}

// of a label: what it becomes. It is looked up once: what it becomes is not changed again.
func (c changes) of(label int) int {
	if to, ok := c[label]; ok {
		return to
	}
	return label
}
