// Package pack is layer 1: unsigned integers with an explicit length, and strings, as bytes.
package pack

import (
	"math/bits"

	"interregnum/api"
)

// maxWidth is how many bytes the greatest number has.
const maxWidth = 8

// Put returns b followed by the encoding of n: how many bytes n has, and these, the highest one first.
func Put(b []byte, n uint64) []byte {
	return appendNumber(copyWithRoom(b, 1+width(n)), n)
}

// Take returns the number whose encoding begins at the offset at, and the offset after it.
func Take(b []byte, at int) (uint64, int, api.Errno) {
	if at < 0 || at > len(b) {
		return 0, 0, api.ErrArg
	}
	if at == len(b) {
		return 0, 0, api.ErrShort
	}
	size, rest := int(b[at]), b[at+1:]
	if size > maxWidth {
		return 0, 0, api.ErrForm
	}
	if size > len(rest) {
		return 0, 0, api.ErrShort
	}
	// A leading zero byte could be left out; were it accepted, a number would have two encodings.
	if size > 0 && rest[0] == 0 {
		return 0, 0, api.ErrForm
	}
	return number(rest[:size]), at + 1 + size, api.OK
}

// PutText returns b followed by the encoding of s: that of its length, and its bytes.
func PutText(b []byte, s string) []byte {
	n := uint64(len(s))
	return append(appendNumber(copyWithRoom(b, 1+width(n)+len(s)), n), s...)
}

// TakeText returns the string of at most most bytes whose encoding begins at the offset at, and the offset after it.
func TakeText(b []byte, at, most int) (string, int, api.Errno) {
	if most < 0 {
		return "", 0, api.ErrArg
	}
	n, start, err := Take(b, at)
	if err != api.OK {
		return "", 0, err
	}
	// Lengths are compared before they are converted, because not every uint64 is an int.
	if n > uint64(most) {
		return "", 0, api.ErrLong
	}
	if n > uint64(len(b)-start) {
		return "", 0, api.ErrShort
	}
	end := start + int(n)
	return string(b[start:end]), end, api.OK
}

// width returns how many bytes n has; 0 has none.
func width(n uint64) int {
	return (bits.Len64(n) + 7) / 8
}

// copyWithRoom returns a copy of b with capacity for extra more bytes.
// Appending to b itself could write into the caller's memory beyond its length.
func copyWithRoom(b []byte, extra int) []byte {
	return append(make([]byte, 0, len(b)+extra), b...)
}

func appendNumber(b []byte, n uint64) []byte {
	size := width(n)
	b = append(b, byte(size))
	for left := size; left > 0; left-- {
		b = append(b, byte(n>>(8*(left-1))))
	}
	return b
}

// number returns the number whose bytes these are, the highest one first.
func number(digits []byte) uint64 {
	n := uint64(0)
	for left := len(digits); left > 0; left-- {
		n = n<<8 | uint64(digits[len(digits)-left])
	}
	return n
}
