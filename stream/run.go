package stream

import (
	"tropica/api"
	"tropica/core"
)

// check that the machine is right, and that the run may be for it.
func check(m api.Machine, r api.Run) api.Errno {
	if err := core.Check(m); err != api.OK {
		return err
	}
	if r.Fed < 0 || r.Fed > api.MaxFeed || !risesWithin(m, r.Marks) {
		return api.ErrState
	}
	for _, k := range r.Marks {
		if !mayBe(k) {
			return api.ErrState
		}
	}
	return api.OK
}

// risesWithin the machine's states, from mark to mark.
func risesWithin(m api.Machine, list []api.Mark) bool {
	next := 0
	for _, k := range list {
		if k.State < next || k.State >= len(m.States) {
			return false
		}
		next = k.State + 1
	}
	return true
}

// mayBe: what it cost and what it wrote is within the limits.
func mayBe(k api.Mark) bool {
	return 0 <= k.Weight && k.Weight <= api.MaxWeight && len(k.Out) <= api.MaxOut && areLabels(k.Out)
}

// areLabels: none is the empty one.
func areLabels(list []int) bool {
	for _, label := range list {
		if label <= api.Empty || label > api.MaxLabel {
			return false
		}
	}
	return true
}

// begun: where the machine may be before anything is fed.
func begun(m api.Machine) marks {
	open := marks{}
	if m.Start >= 0 {
		open.put(api.Mark{State: m.Start})
	}
	return closed(m, open)
}

// behind a label: where the machine may be that was at these marks.
func behind(m api.Machine, kept marks, label int) marks {
	open := marks{}
	for _, k := range kept {
		for _, a := range m.States[k.State].Arcs {
			if a.In == label {
				open.put(along(k, a))
			}
		}
	}
	return closed(m, open)
}

// bestEnd: the best mark that may end, with what ending costs put to it, and whether there is one.
func bestEnd(m api.Machine, r api.Run) (api.Mark, bool) {
	var best api.Mark
	found := false
	for _, k := range r.Marks {
		final := m.States[k.State].Final
		if final == api.Inf {
			continue
		}
		k.Weight += final
		if !found || isBetter(k, best) {
			best, found = k, true
		}
	}
	return copied(best), found
}
