package code

import "downtilt/api"

// FormatBits returns the digits of bits.
func FormatBits(bits []int) string {
	text := make([]byte, len(bits))
	for i, b := range bits {
		switch b {
		case 0:
			text[i] = '0'
		case 1:
			text[i] = '1'
		default:
			text[i] = '?'
		}
	}
	return string(text)
}

// ParseBits returns the bits with a text.
func ParseBits(s string) ([]int, api.Errno) {
	if len(s) > api.MaxCodeBits {
		return nil, api.ErrLarge
	}
	bits := make([]int, len(s))
	for i := range len(s) {
		switch s[i] {
		case '0':
		case '1':
			bits[i] = 1
		default:
			return nil, api.ErrSyntax
		}
	}
	return bits, api.OK
}
