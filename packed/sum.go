package packed

// sumOf bytes: P9.1.
func sumOf(b []byte) uint16 {
	register := uint16(0xffff)
	for _, c := range b {
		register ^= uint16(c) << 8
		for range 8 {
			fellOut := register >> 15
			register <<= 1
			if fellOut == 1 {
				register ^= 0x1021
			}
		}
	}
	return register
}
