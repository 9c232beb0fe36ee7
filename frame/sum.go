package frame

const (
	bitsPerByte = 8
	turns       = 0xedb88320 // what the register is turned by
)

// Sum: the CRC-32 of parts.
func Sum(parts ...[]byte) uint32 {
	register := ^uint32(0)
	for _, part := range parts {
		for _, c := range part {
			register = turn(register, c)
		}
	}
	return ^register
}

// turn: the register behind one more byte.
func turn(register uint32, c byte) uint32 {
	register ^= uint32(c)
	for range bitsPerByte {
		// The bit that falls out, made negative, is all ones or all noughts: a branch on it would be guessed wrongly half the time.
		register = register>>1 ^ turns&-(register&1)
	}
	return register
}
