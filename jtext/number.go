package jtext

import (
	"strconv"
	"strings"
)

const (
	minus  = "-"
	zero   = "0"
	point  = "."
	powers = "eE"
	signs  = "+-"

	base    = 10
	intBits = 64
)

// Number is how many bytes the longest number's text has with which s begins; 0, if there is none.
func Number(s string) int {
	rest := strings.TrimPrefix(s, minus)
	whole := digits(rest)
	if whole == 0 {
		return 0
	}
	// Digits behind a 0 are no more of it.
	if strings.HasPrefix(rest, zero) {
		whole = len(zero)
	}
	rest = rest[whole:]
	rest = rest[fraction(rest):]
	rest = rest[power(rest):]
	return len(s) - len(rest)
}

// Int is the number of a number's text that has neither point nor power, and whether it is one that an int can be; -0 is none.
func Int(s string) (int, bool) {
	// No bytes, a point and a power are errors here; a plus, zeros ahead and -0 are not.
	n, err := strconv.ParseInt(s, base, intBits)
	if err != nil || Number(s) != len(s) || s == minus+zero {
		return 0, false
	}
	return int(n), true
}

// fraction is how many bytes a point and digits have with which s begins; 0, if s does not begin so.
func fraction(s string) int {
	rest, ok := strings.CutPrefix(s, point)
	n := digits(rest)
	if !ok || n == 0 {
		return 0
	}
	return len(point) + n
}

// power is how many bytes e, perhaps a sign, and digits have with which s begins; 0, if s does not begin so.
func power(s string) int {
	if s == "" || strings.IndexByte(powers, s[0]) < 0 {
		return 0
	}
	at := 1
	if at < len(s) && strings.IndexByte(signs, s[at]) >= 0 {
		at++
	}
	n := digits(s[at:])
	if n == 0 {
		return 0
	}
	return at + n
}

// digits is how many digits s begins with.
func digits(s string) int {
	for at, r := range s {
		if r < '0' || r > '9' {
			return at
		}
	}
	return len(s)
}
