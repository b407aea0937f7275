// Package wide is layer 1: numbers of 128 bits.
package wide

import (
	"math/bits"

	"berthing/api"
)

const (
	wordBits = 64
	allBits  = 2 * wordBits
	// mostDigits is how many digits 2^128 - 1 has.
	mostDigits = 39
)

// Of a number.
func Of(u uint64) api.Wide {
	return api.Wide{Lo: u}
}

// Uint: the number, if it is short.
func Uint(a api.Wide) (uint64, bool) {
	if a.Hi != 0 {
		return 0, false
	}
	return a.Lo, true
}

// Compare two.
func Compare(a, b api.Wide) int {
	if a == b {
		return 0
	}
	if a.Hi < b.Hi || a.Hi == b.Hi && a.Lo < b.Lo {
		return -1
	}
	return 1
}

// Bits of a number.
func Bits(a api.Wide) int {
	if a.Hi != 0 {
		return wordBits + bits.Len64(a.Hi)
	}
	return bits.Len64(a.Lo)
}

// Add two.
func Add(a, b api.Wide) (api.Wide, bool) {
	lo, carry := bits.Add64(a.Lo, b.Lo, 0)
	hi, over := bits.Add64(a.Hi, b.Hi, carry)
	if over != 0 {
		return api.Wide{}, false
	}
	return api.Wide{Hi: hi, Lo: lo}, true
}

// Sub: one less another one.
func Sub(a, b api.Wide) (api.Wide, bool) {
	lo, borrow := bits.Sub64(a.Lo, b.Lo, 0)
	hi, under := bits.Sub64(a.Hi, b.Hi, borrow)
	if under != 0 {
		return api.Wide{}, false
	}
	return api.Wide{Hi: hi, Lo: lo}, true
}

// Left: so many bits up.
func Left(a api.Wide, n int) (api.Wide, bool) {
	if n < 0 {
		return api.Wide{}, false
	}
	if a == (api.Wide{}) {
		return api.Wide{}, true
	}
	// The bits are held against what is left of 128, for their sum with n may not fit an int.
	if Bits(a) > allBits-n {
		return api.Wide{}, false
	}
	by := uint(n)
	if by >= wordBits {
		return api.Wide{Hi: a.Lo << (by - wordBits)}, true
	}
	return api.Wide{Hi: a.Hi<<by | a.Lo>>(wordBits-by), Lo: a.Lo << by}, true
}

// Right: so many bits down.
func Right(a api.Wide, n int) api.Wide {
	if n < 0 {
		return a
	}
	by := uint(n)
	if by >= wordBits {
		return api.Wide{Lo: a.Hi >> (by - wordBits)}
	}
	return api.Wide{Hi: a.Hi >> by, Lo: a.Lo>>by | a.Hi<<(wordBits-by)}
}

// Times a word.
func Times(a api.Wide, u uint64) (api.Wide, bool) {
	carry, lo := bits.Mul64(a.Lo, u)
	over, high := bits.Mul64(a.Hi, u)
	hi, more := bits.Add64(high, carry, 0)
	if over != 0 || more != 0 {
		return api.Wide{}, false
	}
	return api.Wide{Hi: hi, Lo: lo}, true
}

// By a word, and the rest.
func By(a api.Wide, u uint64) (api.Wide, uint64, bool) {
	if u == 0 {
		return api.Wide{}, 0, false
	}
	// Div64 wants a high word below u, which the rest of Hi is.
	lo, rest := bits.Div64(a.Hi%u, a.Lo, u)
	return api.Wide{Hi: a.Hi / u, Lo: lo}, rest, true
}

// Text of a number.
func Text(a api.Wide) string {
	var digits [mostDigits]byte
	first := mostDigits
	left := a
	for range mostDigits {
		next, rest, _ := By(left, 10)
		first--
		digits[first] = '0' + byte(rest)
		if next == (api.Wide{}) {
			break
		}
		left = next
	}
	return string(digits[first:mostDigits:mostDigits])
}

// Parse a number's text; false: it is none.
func Parse(s string) (api.Wide, bool) {
	if s == "" || len(s) > 1 && s[0] == '0' {
		return api.Wide{}, false
	}
	var a api.Wide
	for i := range len(s) {
		next, ok := withDigit(a, s[i])
		if !ok {
			return api.Wide{}, false
		}
		a = next
	}
	return a, true
}

// withDigit is a with one digit more behind it; false: c is no digit, or the number is too great.
func withDigit(a api.Wide, c byte) (api.Wide, bool) {
	if c < '0' || c > '9' {
		return api.Wide{}, false
	}
	ten, ok := Times(a, 10)
	if !ok {
		return api.Wide{}, false
	}
	return Add(ten, Of(uint64(c-'0')))
}
