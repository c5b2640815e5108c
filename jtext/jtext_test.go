package jtext_test

import (
	"encoding/json"
	"fmt"
	"regexp"
	"strings"
	"testing"
	"unicode/utf8"
	"unsafe"

	"onionskin/jtext"
)

// quotes tells t where s is not quoted as want.
func quotes(t *testing.T, s, want string) {
	t.Helper()
	if got := jtext.Quote(s); got != want {
		t.Errorf("%q: %q, not %q", s, got, want)
	}
}

// means tells t where text, and text with other things behind it, does not mean want.
func means(t *testing.T, text, want string) {
	t.Helper()
	for _, behind := range []string{"", "x", "\"", "\"\"", "\\", "\x00", "\n", "\xff", "\xbf", ",\"a\":1}"} {
		got, n, ok := jtext.Unquote(text + behind)
		if got != want || n != len(text) || !ok {
			t.Errorf("%q, with %q behind it: %q, %d, %t, not %q, %d", text, behind, got, n, ok, want, len(text))
		}
	}
}

// isNone tells t where s is told to begin with a string's text, or where something is told beside the false.
func isNone(t *testing.T, s string) {
	t.Helper()
	if got, n, ok := jtext.Unquote(s); got != "" || n != 0 || ok {
		t.Errorf("%q: %q, %d, %t", s, got, n, ok)
	}
}

// spoils tells t where a part that may not be in a text is read: alone, at an end, between others, or twice. (What stands behind it is no hexadecimal digit.)
func spoils(t *testing.T, part string) {
	t.Helper()
	for _, in := range []string{part, "y" + part, part + "y", "y" + part + "z", part + part, "\u00e4" + part + "\u20ac", "\\n" + part + "\\n", "\\u0041" + part + "\\u0041", "y" + part + "z" + part} {
		isNone(t, "\""+in+"\"")
		isNone(t, "\""+in+"\"\"")
		isNone(t, "\""+in)
	}
}

// ends are characters at the ends of what UTF-8 can tell in one, two, three and four bytes, and some between.
var ends = []rune{0x20, 0x21, 0x23, '0', 'A', 'a', 0x7e, 0x7f, 0x80, 0xe4, 0xff, 0x100, 0x7ff, 0x800, 0x2028, 0x2029, 0xd7ff, 0xe000, 0xfdd0, 0xfeff, 0xfffc, 0xfffd, 0xfffe, 0xffff, 0x10000, 0x1f600, 0xfffff, 0x100000, 0x10fffe, 0x10ffff}

// broken are bytes none of which is one of a right character.
var broken = []string{
	"\x80", "\xbf", "\xc0", "\xc1", "\xc2", "\xdf", "\xe0", "\xef", "\xf0", "\xf4", "\xf5", "\xf8", "\xfc", "\xfe", "\xff",
	"\x80\x80", "\xff\xff\xff", "\xbf\x80\xbf\x80\xbf",
	"\xe0\xa0", "\xe2\x82", "\xef\xbf", "\xf0\x90", "\xf0\x90\x80", "\xf4\x8f\xbf", "\xf0\x9f\x98", // cut off
	"\xc0\x80", "\xc0\xaf", "\xc1\xbf", "\xc0\xa2", "\xe0\x80\x80", "\xe0\x9f\xbf", "\xe0\x80\xa2", "\xf0\x80\x80\x80", "\xf0\x8f\xbf\xbf", // more bytes than are needed
	"\xed\xa0\x80", "\xed\xaf\xbf", "\xed\xb0\x80", "\xed\xbf\xbf", "\xed\xa0\xbd\xed\xb8\x80", // d800 to dfff
	"\xf4\x90\x80\x80", "\xf5\x80\x80\x80", "\xf7\xbf\xbf\xbf", "\xf8\x88\x80\x80\x80", "\xfc\x84\x80\x80\x80\x80", // beyond 10ffff
}

// modelQuote is Quote, told by other hands.
func modelQuote(s string) string {
	out := "\""
	for len(s) > 0 {
		r, size := utf8.DecodeRuneInString(s)
		s = s[size:]
		switch r {
		case '"', '\\':
			out += "\\" + string(r)
		case 8, 9, 0xa, 0xc, 0xd:
			out += map[rune]string{8: "\\b", 9: "\\t", 0xa: "\\n", 0xc: "\\f", 0xd: "\\r"}[r]
		default:
			if r < 0x20 {
				out += fmt.Sprintf("\\u%04x", r)
			} else {
				out += string(r)
			}
		}
	}
	return out + "\""
}

// stringForm is a string's text; where bytes are none of right characters it takes them, too.
var stringForm = regexp.MustCompile(`^"(?:[^"\\\x00-\x1f]|\\["\\/bfnrt]|\\u(?:[0-9a-ce-fA-CE-F][0-9a-fA-F]{3}|[dD][0-7][0-9a-fA-F]{2}|[dD][89abAB][0-9a-fA-F]{2}\\u[dD][c-fC-F][0-9a-fA-F]{2}))*"`)

// modelUnquote is Unquote, told by other hands.
func modelUnquote(s string) (string, int, bool) {
	text := stringForm.FindString(s)
	if text == "" || !utf8.ValidString(text) {
		return "", 0, false
	}
	var out string
	if err := json.Unmarshal([]byte(text), &out); err != nil {
		panic(err)
	}
	return out, len(text), true
}

// agrees tells t where s is not unquoted as other hands unquote it.
func agrees(t *testing.T, s string) {
	t.Helper()
	want, size, is := modelUnquote(s)
	if got, n, ok := jtext.Unquote(s); got != want || n != size || ok != is {
		t.Errorf("%q: %q, %d, %t, not %q, %d, %t", s, got, n, ok, want, size, is)
	}
}

// P10.1
func TestQuote(t *testing.T) {
	for s, want := range map[string]string{
		"":                     `""`,
		"a":                    `"a"`,
		"abc 019 XYZ":          `"abc 019 XYZ"`,
		"{}[]:,'`<>&/":         "\"{}[]:,'`<>&/\"",
		"\u00e4\u20ac\u6f22":   "\"\u00e4\u20ac\u6f22\"",
		"\U0001f600\U0010ffff": "\"\U0001f600\U0010ffff\"",
		"a\u00e4\u20ac\U0001f600a\u00e4\u20ac\U0001f600": "\"a\u00e4\u20ac\U0001f600a\u00e4\u20ac\U0001f600\"",
		`"`:                                `"\""`,
		`\`:                                `"\\"`,
		`""`:                               `"\"\""`,
		`\"\\`:                             `"\\\"\\\\"`,
		`\n`:                               `"\\n"`,
		`\u0041`:                           `"\\u0041"`,
		"/":                                `"/"`,
		"\x00":                             "\"\\u0000\"",
		"\x08\x09\x0a\x0c\x0d":             "\"\\b\\t\\n\\f\\r\"",
		"\x07\x0b\x0e\x0f\x10\x1a\x1b\x1f": "\"\\u0007\\u000b\\u000e\\u000f\\u0010\\u001a\\u001b\\u001f\"",
		"\x7f":                             "\"\x7f\"",
		"\u2028\u2029\ufeff":               "\"\u2028\u2029\ufeff\"",
		"a\nb":                             `"a\nb"`,
		"A\n":                              `"A\n"`,
		strings.Repeat("\x01", 2000):       "\"" + strings.Repeat(`\u0001`, 2000) + "\"",
		strings.Repeat("ab\"", 100000):     "\"" + strings.Repeat(`ab\"`, 100000) + "\"",
	} {
		quotes(t, s, want)
	}
}

// P10.1: each character there is, alone and between others.
func TestQuoteOfEachCharacter(t *testing.T) {
	for r := rune(0); r <= utf8.MaxRune; r++ {
		if !utf8.ValidRune(r) {
			continue
		}
		if s := string(r); jtext.Quote(s) != modelQuote(s) {
			t.Errorf("%x: %q", r, jtext.Quote(s))
		}
	}
	for r := rune(0); r < 0x20; r++ {
		quotes(t, "a"+string(r)+"\u00e4"+string(r), modelQuote("a"+string(r)+"\u00e4"+string(r)))
	}
	for _, r := range ends {
		quotes(t, string(r), "\""+string(r)+"\"")
		quotes(t, "a"+string(r)+"b"+string(r), "\"a"+string(r)+"b"+string(r)+"\"")
	}
}

// P10.1: each byte that is none of a right character counts as one fffd.
func TestQuoteOfBrokenBytes(t *testing.T) {
	for _, s := range broken {
		bad := strings.Repeat("\ufffd", len(s))
		quotes(t, s, "\""+bad+"\"")
		quotes(t, "a"+s, "\"a"+bad+"\"")
		quotes(t, s+"a", "\""+bad+"a\"")
		quotes(t, "\u00e4"+s+"\U0001f600", "\"\u00e4"+bad+"\U0001f600\"")
		quotes(t, "\n"+s+"\"", "\"\\n"+bad+"\\\"\"")
		quotes(t, s+"\x1f"+s, "\""+bad+"\\u001f"+bad+"\"")
		quotes(t, s+"\ufffd", "\""+bad+"\ufffd\"")
	}
	for _, r := range ends { // cut off at each place
		for cut := range len(string(r)) {
			s := string(r)[:cut]
			quotes(t, s, "\""+strings.Repeat("\ufffd", cut)+"\"")
			quotes(t, s+"\\", "\""+strings.Repeat("\ufffd", cut)+"\\\\\"")
		}
	}
	quotes(t, "\xff\xe0\xa0", "\"\ufffd\ufffd\ufffd\"")
}

// P10.1: each two and three bytes, of those that matter.
func TestQuoteOfShortTexts(t *testing.T) {
	for a := range 256 {
		for b := range 256 {
			s := string([]byte{byte(a), byte(b)})
			quotes(t, s, modelQuote(s))
		}
	}
	const kinds = "\x00\n\"\\a\x80\xa0\xc2\xe0\xed\xef\xf0\xf4\xff\x90\xbf"
	for k := range len(kinds) * len(kinds) * len(kinds) * len(kinds) {
		s := string([]byte{kinds[k%16], kinds[k/16%16], kinds[k/256%16], kinds[k/4096]})
		quotes(t, s, modelQuote(s))
	}
}

// P10.2
func TestUnquote(t *testing.T) {
	for text, want := range map[string]string{
		`""`:                           "",
		`"a"`:                          "a",
		`"abc 019 XYZ"`:                "abc 019 XYZ",
		`"/{}[]:,'"`:                   "/{}[]:,'",
		"\"\u00e4\u20ac\u6f22\"":       "\u00e4\u20ac\u6f22",
		"\"\U0001f600\U0010ffff\"":     "\U0001f600\U0010ffff",
		"\"a\u00e4\u20ac\U0001f600b\"": "a\u00e4\u20ac\U0001f600b",
		"\"\x7f\u0080\"":               "\x7f\u0080",
		"\"\ufffd\"":                   "\ufffd",
		"\"a\ufffd\ufffdb\"":           "a\ufffd\ufffdb",
		"\"\u2028\u2029\ufeff\uffff\"": "\u2028\u2029\ufeff\uffff",
		`"\u0041\n"`:                   "A\n",
		`"\""`:                         `"`,
		`"\\"`:                         `\`,
		`"\\\\"`:                       `\\`,
		`"\\n"`:                        `\n`,
		`"\\\""`:                       `\"`,
		`"\/"`:                         "/",
		`"\b\f\n\r\t"`:                 "\x08\x0c\x0a\x0d\x09",
		`"a\nb\tc"`:                    "a\nb\tc",
		`"\u0022\u005c\u002f"`:         `"\/`,
		`"\u0000\u001f"`:               "\x00\x1f",
		`"\u005cn"`:                    `\n`,
		`"\u005cu0041"`:                `\u0041`,
		`"\u00410"`:                    "A0",
		`"\u0041\u0042C\u0044"`:        "ABCD",
		strings.Repeat(`"`, 2):         "",
		`"` + strings.Repeat(`\u20aC`, 3000) + `"`:     strings.Repeat("\u20ac", 3000),
		`"` + strings.Repeat("ab\u00e4", 100000) + `"`: strings.Repeat("ab\u00e4", 100000),
	} {
		means(t, text, want)
	}
}

// P10.2: each character as it is, and by its number, in great and in small digits.
func TestUnquoteOfEachCharacter(t *testing.T) {
	for r := rune(0); r <= utf8.MaxRune; r++ {
		if !utf8.ValidRune(r) {
			continue
		}
		s := string(r)
		switch got, n, ok := jtext.Unquote("\"" + s + "\""); {
		case r < 0x20 || r == '"' || r == '\\':
			if ok && r != '"' {
				t.Errorf("%x: %q, %d", r, got, n)
			}
		case got != s || n != len(s)+2 || !ok:
			t.Errorf("%x: %q, %d, %t", r, got, n, ok)
		}
		for _, form := range []string{"%04x", "%04X"} {
			text := "\"\\u" + fmt.Sprintf(form, r) + "\""
			if r >= 0x10000 {
				text = "\"\\u" + fmt.Sprintf(form, 0xd800+(r-0x10000)/1024) + "\\u" + fmt.Sprintf(form, 0xdc00+(r-0x10000)%1024) + "\""
			}
			if got, n, ok := jtext.Unquote(text); got != s || n != len(text) || !ok {
				t.Errorf("%q: %q, %d, %t", text, got, n, ok)
			}
		}
	}
	for _, r := range ends {
		means(t, "\""+string(r)+"\"", string(r))
		means(t, "\"a"+string(r)+string(r)+"b\"", "a"+string(r)+string(r)+"b")
	}
}

// P10.2: what begins with no quote, or has no last one.
func TestUnquoteWithoutQuotes(t *testing.T) {
	for _, s := range []string{
		"", "a", "a\"", " \"\"", "\n\"a\"", "\ufeff\"a\"", "'a'", "\\\"a\"", "\x00\"\"", "\xff\"\"", "\u201ca\u201d", "null", "1", "[\"\"]",
		`"`, `"a`, `"ab c`, "\"\u00e4", "\"\U0001f600", `"\"`, `"a\"`, `"\\\"`, `"\`, `"a\`, `"\\`, `"\u`, `"\u0041`, `"\n`, `"\u004`, `"\ud83d\ude00`,
		"\"" + strings.Repeat("a", 5000), "\"" + strings.Repeat("\\\"", 5000),
	} {
		isNone(t, s)
	}
}

// P10.2: characters below 20.
func TestUnquoteOfLowCharacters(t *testing.T) {
	for r := range 0x20 {
		spoils(t, string(rune(r)))
	}
	spoils(t, "\r\n")
}

// P10.2: bytes that are none of right characters.
func TestUnquoteOfBrokenBytes(t *testing.T) {
	for _, s := range broken {
		spoils(t, s)
		isNone(t, "\"\ufffd"+s+"\"")
		isNone(t, "\""+s+"\ufffd\"")
		isNone(t, "\"\\"+s+"\"")
		isNone(t, "\"\\u"+s+"\"")
		isNone(t, "\"\\u00"+s+"41\"")
		// Where they stand behind the text they do not matter.
		if got, n, ok := jtext.Unquote("\"a\"" + s); got != "a" || n != 3 || !ok {
			t.Errorf("%q behind it: %q, %d, %t", s, got, n, ok)
		}
	}
	for _, r := range ends {
		for cut := 1; cut < len(string(r)); cut++ {
			spoils(t, string(r)[:cut])
			spoils(t, string(r)[cut:])
		}
	}
}

// P10.2: each byte behind the sign of escapes.
func TestUnquoteOfEachEscape(t *testing.T) {
	signs := map[byte]string{'"': "\"", '\\': "\\", '/': "/", 'b': "\x08", 'f': "\x0c", 'n': "\x0a", 'r': "\x0d", 't': "\x09"}
	for c := range 256 {
		escape := "\\" + string([]byte{byte(c)})
		if want, ok := signs[byte(c)]; ok {
			means(t, "\""+escape+"\"", want)
			means(t, "\"a"+escape+"b"+escape+"\"", "a"+want+"b"+want)
			means(t, "\""+escape+escape+"\u00e4\"", want+want+"\u00e4")
			continue
		}
		spoils(t, escape)
		if c != 'u' {
			spoils(t, escape+"0041")
		}
	}
	spoils(t, "\\\u00e4")
	spoils(t, "\\ n")
	spoils(t, "\\x41")
	spoils(t, "\\U0041")
	spoils(t, "\\101")
	spoils(t, "\\u{41}")
}

// P10.2: too few digits, and signs that are none.
func TestUnquoteOfOtherDigits(t *testing.T) {
	for _, digits := range []string{
		"", "0", "00", "004", "g041", "0g41", "00g1", "004g", "G041", "004G", "+041", "-041", "00+1", " 041", "004 ", "0x41", "0X41", "00_1", "0_41", "_041", "004_",
		"004.", "004/", "004:", "004@", "004`", "00\\n", "\\u00", "\u0660041", "004\u0661", "00\u00e4", "00\xff\xff", "004\x00", "004\n",
	} {
		spoils(t, "\\u"+digits)
	}
	for _, digits := range []string{"0000", "0041", "00e4", "00E4", "20ac", "20AC", "20aC", "abcd", "ABCD", "aBcD", "ffff", "FFFF", "fFfD", "d7ff", "D7FF", "e000", "E000", "0009"} {
		want := ""
		if err := json.Unmarshal([]byte("\"\\u"+digits+"\""), &want); err != nil {
			t.Fatal(err)
		}
		means(t, "\"\\u"+digits+"\"", want)
		means(t, "\"\\u"+digits+digits+"\\u"+digits+"\"", want+digits+want)
	}
	for c := range 256 { // each byte as each of the digits
		for at := range 4 {
			digits := []byte("0a1E")
			digits[at] = byte(c)
			agrees(t, "\"\\u"+string(digits)+"\"")
			agrees(t, "\"\\ud83d\\u"+string(digits)+"\"")
		}
	}
}

// P10.2: two numbers that mean one character, at each end of what they can be.
func TestUnquoteOfPairs(t *testing.T) {
	for text, want := range map[string]rune{
		`\ud800\udc00`: 0x10000, `\ud800\udfff`: 0x103ff, `\ud801\udc00`: 0x10400, `\udbff\udc00`: 0x10fc00, `\udbff\udfff`: 0x10ffff, `\uDBFF\uDFFF`: 0x10ffff, `\ud83d\ude00`: 0x1f600, `\uD83D\uDE00`: 0x1f600, `\uD83d\uDe00`: 0x1f600,
	} {
		s := string(want)
		means(t, "\""+text+"\"", s)
		means(t, "\""+text+text+"\"", s+s)
		means(t, "\"a"+text+"b\"", "a"+s+"b")
		means(t, "\"\\u0041"+text+"\\u0041\"", "A"+s+"A")
		means(t, "\"\\\\"+text+"\\n\"", "\\"+s+"\n")
		means(t, "\""+text+"dc00\"", s+"dc00")
	}
	means(t, `"\ud7ff\ue000"`, "\ud7ff\ue000")
	means(t, `"\ud7ffa\ue000"`, "\ud7ffa\ue000")
}

// P10.2: numbers from d800 to dfff that have not what they need.
func TestUnquoteOfHalfPairs(t *testing.T) {
	for _, first := range []string{`\ud800`, `\udbff`, `\uD83D`, `\uDaaA`} {
		spoils(t, first)
		for _, second := range []string{`\ud800`, `\udbff`, `\ud7ff`, `\ue000`, `\uffff`, `\u0041`, `\udc0`, `\udc0g`, `\n`, `\\udc00`, `a\udc00`, `\"\udc00`, ` \udc00`, `udc00`, `dc00`, `/udc00`, `\Udc00`, `\`, `\u`, "\u00e4", "\U0001f600"} {
			spoils(t, first+second)
		}
		spoils(t, first+first+`\udc00`)
	}
	for _, second := range []string{`\udc00`, `\udfff`, `\uDE00`, `\udaaa`} {
		spoils(t, second)
		spoils(t, second+`\ud800`)
		spoils(t, second+second)
	}
	spoils(t, `\ud83d\ude00\ude00`)
	spoils(t, `\ud83d\ude00\ud83d`)
	spoils(t, `\ud83d\ud83d\ude00`)
}

// P10.2: each two numbers of those at the ends.
func TestUnquoteOfEachTwoNumbers(t *testing.T) {
	numbers := []int{0, 0x41, 0xd7ff, 0xd800, 0xd801, 0xdabc, 0xdbfe, 0xdbff, 0xdc00, 0xdc01, 0xdead, 0xdffe, 0xdfff, 0xe000, 0xfffd, 0xffff}
	for _, a := range numbers {
		for _, b := range numbers {
			agrees(t, fmt.Sprintf("\"\\u%04x\\u%04X\"", a, b))
			for _, c := range numbers {
				agrees(t, fmt.Sprintf("\"\\u%04x\\u%04x\\u%04x\"", a, b, c))
			}
		}
	}
}

// P10.2: each text of a quote and up to four bytes, of those that matter.
func TestUnquoteOfShortTexts(t *testing.T) {
	const kinds = "\"\\an/u0\x1f\x80\xc3\xff"
	count := 1
	for size := range 6 {
		s := make([]byte, size)
		for k := range count {
			for at := range s {
				s[at] = kinds[k%len(kinds)]
				k /= len(kinds)
			}
			agrees(t, "\""+string(s))
		}
		count *= len(kinds)
	}
}

// P10.2: a text cut off at each place, and with each byte at each place.
func TestUnquoteOfChangedTexts(t *testing.T) {
	for _, text := range []string{"\"ab\"c", `"\u0041\"\\\n"x`, `"\ud83d\ude00"`, "\"\u00e4\u20ac\U0001f600\""} {
		for at := range len(text) {
			agrees(t, text[:at])
			agrees(t, text[at:])
			for c := range 256 {
				agrees(t, text[:at]+string([]byte{byte(c)})+text[at:])
				agrees(t, text[:at]+string([]byte{byte(c)})+text[at+1:])
			}
		}
	}
}

// P10.2: only what is read is looked at, however much stands behind it.
func TestUnquoteOfMuch(t *testing.T) {
	s := `"a\n"` + strings.Repeat("\u00e4", 1<<22)
	for range 100000 {
		if got, n, ok := jtext.Unquote(s); got != "a\n" || n != 5 || !ok {
			t.Fatalf("%q, %d, %t", got, n, ok)
		}
	}
	isNone(t, s[1:])
}

// somes are texts that are right, and some that are not.
func somes() []string {
	l := []string{"", "a", "abc", "a\"b\\c/d\be\ff\ng\rh\ti", "\u00e4\u20ac\U0001f600", `\u0041`, `\ud800`, "\ufffd", "\"\"", "\\\\", strings.Repeat("\x00\x1f\x7f", 1000)}
	for r := range rune(0x100) {
		l = append(l, string(r), "a"+string(r)+string(r)+"b")
	}
	for _, r := range ends {
		l = append(l, string(r), "\""+string(r)+"\\")
	}
	return append(l, broken...)
}

// P10.4: what is quoted is read as it was, if it was right; else with a fffd for each wrong byte.
func TestQuotedIsRead(t *testing.T) {
	for _, s := range somes() {
		want := string([]rune(s))
		if utf8.ValidString(s) && want != s {
			t.Fatalf("%q", s)
		}
		means(t, jtext.Quote(s), want)
	}
	for r := rune(0); r <= utf8.MaxRune; r++ {
		if !utf8.ValidRune(r) {
			continue
		}
		s := string(r)
		text := jtext.Quote(s)
		if got, n, ok := jtext.Unquote(text); got != s || n != len(text) || !ok {
			t.Errorf("%x: %q, %d, %t", r, got, n, ok)
		}
	}
}

// P10.4: what is read is quoted in one form, which is read the same again.
func TestReadIsQuoted(t *testing.T) {
	for text, want := range map[string]string{
		`""`:                     `""`,
		`"a"`:                    `"a"`,
		`"\u0041\u00E4\/"`:       "\"A\u00e4/\"",
		`"\u0008\u0022\u005c"`:   `"\b\"\\"`,
		`"\u001F\u007F"`:         "\"\\u001f\x7f\"",
		`"\uD83D\uDE00"`:         "\"\U0001f600\"",
		"\"\U0001f600\\uFFFD\"x": "\"\U0001f600\ufffd\"",
	} {
		s, _, ok := jtext.Unquote(text)
		if !ok {
			t.Errorf("%q", text)
		}
		quotes(t, s, want)
		means(t, want, s)
	}
}

// W2, W3: what was asked before does not matter.
func TestTwiceTheSame(t *testing.T) {
	for range 2 {
		for _, s := range somes() {
			quotes(t, s, modelQuote(s))
			isNone(t, "x"+s+"\"")
			agrees(t, "\""+s+"\"")
			means(t, modelQuote(s), string([]rune(s)))
		}
	}
}

// lies is whether part lies in the memory of whole.
func lies(part, whole string) bool {
	from, at := uintptr(unsafe.Pointer(unsafe.StringData(whole))), uintptr(unsafe.Pointer(unsafe.StringData(part)))
	return len(part) > 0 && at >= from && at < from+uintptr(len(whole))
}

// W6: what is answered shares no memory with what was handed in.
func TestAnswersAreApart(t *testing.T) {
	for _, s := range []string{"a", "abc", "\u00e4\u20ac", strings.Repeat("z", 10000)} {
		text := jtext.Quote(s)
		if lies(text, s) || lies(s, text) {
			t.Errorf("%q: the text shares it", s)
		}
		if got, _, _ := jtext.Unquote(text); got != s || lies(got, text) {
			t.Errorf("%q: the meaning shares the text", got)
		}
	}
}

// P10.1, P10.4, W1: any bytes are quoted as other hands quote them, and are read as they were.
func FuzzQuote(f *testing.F) {
	for _, s := range somes() {
		f.Add(s)
	}
	f.Fuzz(func(t *testing.T, s string) {
		quotes(t, s, modelQuote(s))
		means(t, jtext.Quote(s), string([]rune(s)))
		if !json.Valid([]byte(jtext.Quote(s))) {
			t.Errorf("%q: no JSON", s)
		}
	})
}

// P10.2, P10.4, W1: any bytes are read as other hands read them, and again when they are quoted.
func FuzzUnquote(f *testing.F) {
	for _, s := range somes() {
		f.Add("\"" + s + "\"")
	}
	for _, s := range []string{"", `"\ud83d\ude00\u0041"x`, `"\ud83d"`, `"\u00`, `"\`} {
		f.Add(s)
	}
	f.Fuzz(func(t *testing.T, s string) {
		agrees(t, s)
		agrees(t, "\""+s)
		if got, _, ok := jtext.Unquote(s); ok {
			means(t, jtext.Quote(got), got)
		}
	})
}
