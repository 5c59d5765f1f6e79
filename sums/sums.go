// Package sums: fingerprints and check sums of texts, and bytes as digits;
// see shared/doc/01-sums.md.
package sums

// checkPoly is the polynomial of CRC-32, its lowest power in the highest bit.
const checkPoly = 0xEDB88320

const hexDigits = "0123456789abcdef"

// Check answers the check sum of s: CRC-32.
func Check(s string) uint32 {
	sum := ^uint32(0)
	for i := range len(s) {
		sum = checkStep(sum ^ uint32(s[i]))
	}
	return ^sum
}

// checkStep takes the lowest eight bits of a check sum out of it.
func checkStep(sum uint32) uint32 {
	for range 8 {
		// All ones if the bit that falls out is 1: no branch on the data,
		// which could not be foretold.
		mask := -(sum & 1)
		sum = sum>>1 ^ checkPoly&mask
	}
	return sum
}

// Hex answers each byte of s in two digits, 0 to 9 and a to f.
func Hex(s string) string {
	digits := make([]byte, 0, 2*len(s))
	for i := range len(s) {
		digits = append(digits, hexDigits[s[i]>>4], hexDigits[s[i]&15])
	}
	return string(digits)
}

// Raw answers the bytes whose Hex digits is, and whether there are such.
func Raw(digits string) (string, bool) {
	if len(digits)%2 != 0 {
		return "", false
	}
	raw := make([]byte, 0, len(digits)/2)
	for i := 0; i < len(digits); i += 2 {
		high, highOK := digitValue(digits[i])
		low, lowOK := digitValue(digits[i+1])
		if !highOK || !lowOK {
			return "", false
		}
		raw = append(raw, high<<4|low)
	}
	return string(raw), true
}

// digitValue knows the digits that Hex writes alone: no capital letters, so
// that no bytes have two spellings.
func digitValue(digit byte) (byte, bool) {
	switch {
	case '0' <= digit && digit <= '9':
		return digit - '0', true
	case 'a' <= digit && digit <= 'f':
		return digit - 'a' + 10, true
	}
	return 0, false
}
