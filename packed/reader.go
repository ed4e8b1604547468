package packed

import "tropica/api"

// machineOf bytes without their sum; whether it is right is not asked here.
func machineOf(b []byte) (m api.Machine, err api.Errno) {
	// The reader gives up from deep inside; this is the one place where that ends.
	defer func() {
		if e, ok := recover().(api.Errno); ok {
			m, err = api.Machine{}, e
		}
	}()
	r := reader{rest: b}
	if r.number(1) != firstByte {
		return api.Machine{}, api.ErrForm
	}
	read := r.machine()
	if len(r.rest) > 0 {
		return api.Machine{}, api.ErrForm
	}
	return read, api.OK
}

// reader of what is left of the bytes. Lists grow as they are read: a number of states or arcs
// that the bytes do not hold takes no memory ahead of their end.
type reader struct {
	rest []byte
}

func (r *reader) machine() api.Machine {
	states := r.number(stateWidth)
	m := api.Machine{Start: r.number(stateWidth) - 1}
	for range states {
		m.States = append(m.States, r.state())
	}
	return m
}

func (r *reader) state() api.State {
	s := api.State{Final: r.number(weightWidth)}
	for range r.number(countWidth) {
		s.Arcs = append(s.Arcs, r.arc())
	}
	return s
}

func (r *reader) arc() api.Arc {
	var a api.Arc
	a.In = r.number(labelWidth)
	a.Out = r.number(labelWidth)
	a.Weight = r.number(weightWidth)
	a.To = r.number(stateWidth)
	return a
}

// number of so many bytes, which are taken away; gives up where the bytes end too early.
func (r *reader) number(width int) int {
	if len(r.rest) < width {
		panic(api.ErrForm)
	}
	n := numberOf(r.rest[:width])
	r.rest = r.rest[width:]
	return n
}

// numberOf bytes, the highest one first.
func numberOf(b []byte) int {
	n := 0
	for _, c := range b {
		n = n<<8 | int(c)
	}
	return n
}
