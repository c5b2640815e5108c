package jtext_test

import (
	"math/big"
	"regexp"
	"strconv"
	"strings"
	"testing"

	"onionskin/api"
	"onionskin/jtext"
)

// begins tells t where the number's text with which s begins is not the first so many bytes of it.
func begins(t *testing.T, s string, want int) {
	t.Helper()
	if got := jtext.Number(s); got != want {
		t.Errorf("%q: %d, not %d", s, got, want)
	}
}

// isInt tells t where s is not the number n.
func isInt(t *testing.T, s string, n int) {
	t.Helper()
	if got, ok := jtext.Int(s); got != n || !ok {
		t.Errorf("%q: %d, %t, not %d", s, got, ok, n)
	}
}

// noInt tells t where s is a number, or where one is told beside the false.
func noInt(t *testing.T, s string) {
	t.Helper()
	if got, ok := jtext.Int(s); got != 0 || ok {
		t.Errorf("%q: %d, %t", s, got, ok)
	}
}

// numberForm is the longest number's text.
var numberForm = func() *regexp.Regexp {
	form := regexp.MustCompile(`^-?(?:0|[1-9][0-9]*)(?:\.[0-9]+)?(?:[eE][+-]?[0-9]+)?`)
	form.Longest()
	return form
}()

// modelInt is Int, told by other hands.
func modelInt(s string) (int, bool) {
	if s == "" || s == "-0" || numberForm.FindString(s) != s || strings.Trim(s, "-0123456789") != "" {
		return 0, false
	}
	n, ok := new(big.Int).SetString(s, 10)
	if !ok {
		panic(s)
	}
	if !n.IsInt64() {
		return 0, false
	}
	return int(n.Int64()), true
}

// counts tells t where Number and Int do not tell of s what other hands tell of it.
func counts(t *testing.T, s string) {
	t.Helper()
	begins(t, s, len(numberForm.FindString(s)))
	if n, ok := modelInt(s); ok {
		isInt(t, s, n)
	} else {
		noInt(t, s)
	}
}

// P10.3
func TestNumber(t *testing.T) {
	for _, s := range []string{
		"0", "-0", "1", "9", "-1", "10", "19", "90", "-100", "1234567890", "9223372036854775808", "-98765432109876543210",
		"0.0", "0.5", "-0.5", "1.0", "12.50", "3.00000", "0.0123456789",
		"0e0", "0E0", "1e1", "1E1", "1e+1", "1e-1", "1E+1", "1E-1", "1e01", "1e00", "1e-00", "1e1234567890", "-0e-0", "-0.0E+0", "-12.50e+3", "10.01E-10",
		"1" + strings.Repeat("0", 5000), "-0." + strings.Repeat("9", 5000) + "e-" + strings.Repeat("0", 5000),
	} {
		begins(t, s, len(s))
		for _, behind := range []string{" ", ",", "]", "}", "\n", "\x00", "x", "-", "+", "/", ":", "\"", "\xff", "\u00e4", "\u0661", "_", "_1", "+1", "-1", ",1", " 1", "n", "\uff11"} {
			begins(t, s+behind, len(s))
		}
		begins(t, " "+s, 0)
		begins(t, "+"+s, 0)
		begins(t, "--"+strings.TrimPrefix(s, "-"), 0)
	}
}

// P10.3: what goes on as a number's text can't.
func TestNumberThatIsCut(t *testing.T) {
	for s, want := range map[string]int{
		"00": 1, "01": 1, "000": 1, "-00": 2, "-01": 2, "0123456789": 1, "00.5": 1, "01e5": 1, "-012.5e1": 2,
		"0.": 1, "1.": 1, "-0.": 2, "12.": 2, "1..5": 1, "1.x": 1, "1.e5": 1, "1.-5": 1, "1.+5": 1, "1. 5": 1, "1.E": 1, "1.\xff": 1, "0.0.0": 3, "1.5.": 3, "1.2.3": 3, "1.\u0661": 1,
		"0e": 1, "1e": 1, "1E": 1, "1e+": 1, "1e-": 1, "1E+": 1, "1E-": 1, "1.5e": 3, "1.5e+": 3, "1.5E-": 3, "-1e": 2, "1e+-1": 1, "1e--1": 1, "1e++1": 1, "1e-+1": 1, "1ee1": 1, "1eE1": 1, "1e.5": 1, "1e+.5": 1, "1ex": 1, "1e+x": 1, "1e 1": 1, "1e+ 1": 1, "1e\u0661": 1,
		"1e1.5": 3, "1e1e1": 3, "1e5e": 3, "1E5x": 3, "1e+5+5": 4, "1.5e5.5": 5, "1e1.": 3, "0e1": 3, "0e01": 4, "0x1": 1, "0X1": 1, "0b1": 1, "0o7": 1, "1_000": 1, "1,000": 1, "1f": 1, "1p5": 1, "0x1p5": 1,
	} {
		begins(t, s, want)
	}
}

// P10.3
func TestNumberOfNone(t *testing.T) {
	for _, s := range []string{
		"", "-", "--", "--1", "+", "+1", "+0", "-+1", "+-1", "- 1", " 1", "\t1", "\n1", ".", ".5", "-.5", ".e1", "e", "e5", "E5", "-e5", "-.", "a", "A", "-a", "x1", "/", ":", "\x00", "\xff", "-\xff", "\xff1", "\u0661", "-\u0661", "\uff11",
		"NaN", "nan", "Inf", "inf", "-Inf", "Infinity", "-Infinity", "null", "true", "false", "\"1\"", "[1]", "{", "_1", ",1", "\u22121", "\ufeff1",
	} {
		begins(t, s, 0)
		noInt(t, s)
	}
}

// P10.3: each byte alone, ahead of a number, and behind its parts.
func TestNumberWithEachByte(t *testing.T) {
	for c := range 256 {
		b := string([]byte{byte(c)})
		for _, ahead := range []string{"", "-", "0", "-0", "7", "10", "0.", "0.5", "1e", "1e+", "1e-", "1E5", "1.5e5"} {
			for _, behind := range []string{"", "0", "5", "-", ".", "e", "e1", ".5", "+1"} {
				counts(t, ahead+b+behind)
			}
		}
	}
}

// P10.3: each text of up to seven bytes, of those that matter.
func TestNumberOfShortTexts(t *testing.T) {
	const kinds = "07.eE+-"
	count := 1
	for size := range 8 {
		s := make([]byte, size)
		for k := range count {
			for at := range s {
				s[at] = kinds[k%len(kinds)]
				k /= len(kinds)
			}
			counts(t, string(s))
		}
		count *= len(kinds)
	}
}

// P10.3: only what is read is looked at, however much stands behind it.
func TestNumberOfMuch(t *testing.T) {
	s := "-1.5e3 " + strings.Repeat("1", 1<<23)
	for range 100000 {
		if n := jtext.Number(s); n != 6 {
			t.Fatal(n)
		}
	}
	begins(t, s[7:], 1<<23)
	begins(t, "0."+s[7:], 2+1<<23)
	noInt(t, s[7:])
}

// P10.3
func TestInt(t *testing.T) {
	for s, n := range map[string]int{
		"0": 0, "1": 1, "-1": -1, "9": 9, "10": 10, "-10": -10, "512": 512, "1000000000000": 1000000000000, "-1234567890123456789": -1234567890123456789,
		"2147483647": 1<<31 - 1, "2147483648": 1 << 31, "4294967296": 1 << 32, "-2147483649": -1<<31 - 1, "4611686018427387904": 1 << 62, "4611686018427387905": 1<<62 + 1,
		"9223372036854775806": api.MaxInt - 1, "9223372036854775807": api.MaxInt, "-9223372036854775807": api.MinInt + 1, "-9223372036854775808": api.MinInt,
	} {
		isInt(t, s, n)
	}
	for k := range 63 {
		for _, n := range []int{1<<k - 1, 1 << k, 1<<k + 1} {
			isInt(t, strconv.Itoa(n), n)
			isInt(t, strconv.Itoa(-n), -n)
			isInt(t, strconv.Itoa(api.MaxInt-n), api.MaxInt-n)
			isInt(t, strconv.Itoa(api.MinInt+n), api.MinInt+n)
		}
	}
}

// P10.3: numbers that are too great, or too small.
func TestIntOfGreatNumbers(t *testing.T) {
	for _, s := range []string{
		"9223372036854775808", "9223372036854775809", "9223372036854775810", "9999999999999999999", "10000000000000000000", "18446744073709551615", "18446744073709551616", "18446744073709551617", "92233720368547758070", "92233720368547758080", "340282366920938463463374607431768211457",
	} {
		noInt(t, s)
	}
	for _, s := range []string{"-9223372036854775809", "-9223372036854775810", "-10000000000000000000", "-18446744073709551615", "-18446744073709551616", "-18446744073709551617", "-92233720368547758080", "-340282366920938463463374607431768211457"} {
		noInt(t, s)
	}
	for size := 20; size < 3000; size += 7 {
		for _, sign := range []string{"", "-"} {
			noInt(t, sign+"1"+strings.Repeat("0", size))
			noInt(t, sign+strings.Repeat("9", size))
			noInt(t, sign+strings.Repeat("0", size))
			noInt(t, sign+strings.Repeat("0", size)+"1")
		}
	}
}

// P10.3: numbers that have another form, and what is none.
func TestIntOfOtherForms(t *testing.T) {
	for _, s := range []string{
		"", "-0", "-00", "00", "01", "-01", "007", "1.0", "1.5", "0.0", "-0.0", "1.", ".1", "1e0", "1E0", "1e1", "10e-1", "0e0", "-0e0", "1e", "1e+", "1.0e1", "100E-2", "1.e1",
		"+1", "+0", "-", "--1", "- 1", " 1", "1 ", "1\n", "\t1", "1\x00", "\x001", "1,", "1]", "1-", "1+", "1-1", "1 1", "1x", "x1", "0x1", "0x10", "0b1", "0o7", "1_0", "1_000", "1,000", "a", "ff", "\"1\"", "1\"", "1\xff", "\xff1", "\u0661", "1\u0661", "null", "9223372036854775807 ", "9223372036854775807.0", "-9223372036854775808.", "9223372036854775807e0",
	} {
		noInt(t, s)
	}
}

// P10.3, W1: of any bytes the number is told that other hands tell.
func FuzzNumber(f *testing.F) {
	for _, s := range []string{"", "0", "-0", "01", "-12.50e+3,", "1.", "1e", "-", ".5", "+1", "9223372036854775807", "9223372036854775808", "-9223372036854775808", "-9223372036854775809", "0.0.0", "1e+x"} {
		f.Add(s)
	}
	f.Fuzz(counts)
}

// P10.3: each number is what its text tells.
func FuzzInt(f *testing.F) {
	for _, n := range []int{0, 1, -1, api.MaxInt, api.MinInt} {
		f.Add(n)
	}
	f.Fuzz(func(t *testing.T, n int) {
		s := strconv.Itoa(n)
		isInt(t, s, n)
		begins(t, s, len(s))
		for _, behind := range []string{".0", "e0", "E+0", " ", "x"} {
			noInt(t, s+behind)
		}
	})
}
