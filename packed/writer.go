package packed

import "tropica/api"

// appendMachine that is right: its numbers fit their widths.
func appendMachine(b []byte, m api.Machine) []byte {
	b = append(b, firstByte)
	b = appendNumber(b, len(m.States), stateWidth)
	b = appendNumber(b, m.Start+1, stateWidth)
	for _, s := range m.States {
		b = appendState(b, s)
	}
	return b
}

func appendState(b []byte, s api.State) []byte {
	b = appendNumber(b, s.Final, weightWidth)
	b = appendNumber(b, len(s.Arcs), countWidth)
	for _, a := range s.Arcs {
		b = appendArc(b, a)
	}
	return b
}

func appendArc(b []byte, a api.Arc) []byte {
	b = appendNumber(b, a.In, labelWidth)
	b = appendNumber(b, a.Out, labelWidth)
	b = appendNumber(b, a.Weight, weightWidth)
	return appendNumber(b, a.To, stateWidth)
}

// appendNumber as so many bytes, the highest one first.
func appendNumber(b []byte, n, width int) []byte {
	for place := width - 1; place >= 0; place-- {
		b = append(b, byte(n>>(8*place)))
	}
	return b
}
