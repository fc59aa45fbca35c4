// Package crc is layer 1: see shared/doc/01-crc.md.
package crc

const (
	firstRegister = 0xffffffff
	turnedBy      = 0xedb88320
	sumLong       = 4
)

// Step is the register behind a byte's step.
func Step(reg uint32, b byte) uint32 {
	reg ^= uint32(b)
	for range 8 {
		reg = shift(reg)
	}
	return reg
}

func shift(reg uint32) uint32 {
	if reg&1 == 1 {
		return reg>>1 ^ turnedBy
	}
	return reg >> 1
}

// Of is a text's sum.
func Of(s string) uint32 {
	reg := uint32(firstRegister)
	for i := range len(s) {
		reg = Step(reg, s[i])
	}
	return ^reg
}

// Seal is a text with its sum behind it.
func Seal(s string) string {
	return s + sumBytes(Of(s))
}

// Ok tells whether a text is sealed.
func Ok(s string) bool {
	if len(s) < sumLong {
		return false
	}
	end := len(s) - sumLong
	return s[end:] == sumBytes(Of(s[:end]))
}

// The lowest byte stands first, as a step takes the lowest bits first: so a
// burst of turned bits stays one burst where it runs over from the text into
// its sum, and is found there too.
func sumBytes(sum uint32) string {
	var b [sumLong]byte
	for i := range b {
		b[i] = byte(sum >> (8 * i))
	}
	return string(b[:])
}
