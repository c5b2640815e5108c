package json_test

import (
	"slices"
	"strconv"
	"strings"
	"testing"
	"unsafe"

	"onionskin/api"
	"onionskin/json"
)

// tokens are signs and texts of JSON between all of which blanks may stand; together they are JSON.
var tokens = []string{"{", `"b"`, ":", "[", "1e5", ",", "true", ",", "{", "}", ",", "[", "]", "]", ",", `"a"`, ":", "{", `""`, ":", "null", "}", "}"}

// tokenRow is the row of the tokens.
func tokenRow() row {
	return object(keyed("b", list(number("1e5"), word(api.JsonTrue), object(), list())), keyed("a", object(keyed("", word(api.JsonNull)))))
}

// begins are the bytes with which values begin.
const begins = `ntf"[{-0123456789`

// P11.1: each kind alone, in lists and in objects.
func TestParse(t *testing.T) {
	for _, s := range mixed() {
		both(t, s)
		both(t, sample{"[" + s.text + "]", list(s.row)})
		both(t, sample{`{"":` + s.text + "}", object(keyed("", s.row))})
		both(t, sample{`{"a":[` + s.text + "," + s.text + `],"b":` + s.text + "}", object(keyed("a", list(s.row, s.row)), keyed("b", s.row))})
		for _, other := range mixed() {
			both(t, sample{"[" + s.text + "," + other.text + "]", list(s.row, other.row)})
			both(t, sample{`{"1":` + s.text + `,"0":` + other.text + "}", object(keyed("1", s.row), keyed("0", other.row))})
		}
	}
}

// P11.1: the rows, each field written down.
func TestParseWrittenDown(t *testing.T) {
	parses(t, `{"a":[1]}`, row{{Kind: 6, Count: 1}, {Kind: 5, Key: "a", Count: 1}, {Kind: 3, Text: "1"}})
	parses(t, `[null,true,false,0,"",[],{}]`, row{{Kind: 5, Count: 7}, {}, {Kind: 1}, {Kind: 2}, {Kind: 3, Text: "0"}, {Kind: 4}, {Kind: 5}, {Kind: 6}})
	parses(t, `{"k":[[],{"k":"\u006b","":{"k":-1.0}}],"l":{}}`, row{{Kind: 6, Count: 2}, {Kind: 5, Key: "k", Count: 2}, {Kind: 5}, {Kind: 6, Count: 2}, {Kind: 4, Key: "k", Text: "k"}, {Kind: 6, Count: 1}, {Kind: 3, Key: "k", Text: "-1.0"}, {Kind: 6, Key: "l"}})
}

// P11.1: lists and objects of many.
func TestManyInOne(t *testing.T) {
	for _, count := range []int{2, 3, 10, 100, 255, 256, 257, 1000, 4999} {
		var items, members []string
		var rows, named []row
		for k := range count {
			s := mixed()[k%len(samples())]
			items, rows = append(items, s.text), append(rows, s.row)
			key := strconv.Itoa(k)
			members, named = append(members, `"`+key+`":`+s.text), append(named, keyed(key, s.row))
		}
		both(t, sample{"[" + strings.Join(items, ",") + "]", list(rows...)})
		both(t, sample{"{" + strings.Join(members, ",") + "}", object(named...)})
	}
}

// P11.1: what a Key's text means.
func TestKeys(t *testing.T) {
	for text, key := range map[string]string{
		`""`: "", `"a"`: "a", `" "`: " ", `"abc def"`: "abc def", `"1"`: "1", `"null"`: "null", `"{\"a\":1}"`: `{"a":1}`,
		`"\u0061"`: "a", `"\"\\\/\b\f\n\r\t"`: "\"\\/\b\f\n\r\t", `"\u0000"`: "\x00", `"\u00E4\u20ac"`: "\u00e4\u20ac", `"\ud83d\uDE00"`: "\U0001f600",
		"\"\u00e4\"": "\u00e4", "\"\u20ac\"": "\u20ac", "\"\U0001f600\"": "\U0001f600", "\"a\u00e4\u20ac\U0001f600\"": "a\u00e4\u20ac\U0001f600", "\"\x7f\ufffd\ufeff\"": "\x7f\ufffd\ufeff",
		`"` + strings.Repeat("k", 100000) + `"`: strings.Repeat("k", 100000),
	} {
		for _, s := range mixed() {
			if !strings.HasPrefix(key, "kkk") || s.text == "[1]" {
				parses(t, "{"+text+":"+s.text+"}", object(keyed(key, s.row)))
				parses(t, `[{"z":1,`+text+":"+s.text+`,"y":2},3]`, list(object(keyed("z", number("1")), keyed(key, s.row), keyed("y", number("2"))), number("3")))
			}
		}
	}
}

// P11.1: each blank at each place where blanks may stand, and several of them.
func TestBlanks(t *testing.T) {
	want := tokenRow()
	for _, blank := range []string{" ", "\t", "\n", "\r", "  ", "\r\n", "\n\r\t ", " \t\t \n\n", strings.Repeat(" ", 5000), strings.Repeat("\n\t", 5000)} {
		for at := range len(tokens) + 1 {
			parses(t, strings.Join(tokens[:at], "")+blank+strings.Join(tokens[at:], ""), want)
		}
		parses(t, blank+strings.Join(tokens, blank)+blank, want)
		for _, s := range samples() {
			parses(t, blank+s.text, s.row)
			parses(t, s.text+blank, s.row)
			parses(t, blank+s.text+blank, s.row)
			parses(t, "["+blank+s.text+blank+"]", list(s.row))
		}
		parses(t, "["+blank+"]", list())
		parses(t, "{"+blank+"}", object())
	}
}

// P11.1: other signs are no blanks, at no place.
func TestNoBlanks(t *testing.T) {
	for _, sign := range []string{
		"\x00", "\x01", "\x07", "\b", "\v", "\f", "\x0e", "\x1f", "\x7f", "\x80", "\x85", "\xa0", "\xff", "\u0085", "\u00a0", "\u1680", "\u180e", "\u2000", "\u2003", "\u200b", "\u2028", "\u2029", "\u202f", "\u205f", "\u3000", "\ufeff", "_", "/", "//\n", "/**/", "#\n", ";", "\\", "\\n", "\\u0020", "'",
	} {
		for at := range len(tokens) + 1 {
			for _, blank := range []string{"", " ", "\n"} {
				refused(t, strings.Join(tokens[:at], "")+sign+strings.Join(tokens[at:], ""), api.ErrForm)
				refused(t, strings.Join(tokens[:at], "")+blank+sign+blank+strings.Join(tokens[at:], ""), api.ErrForm)
			}
		}
		for _, s := range samples() {
			refused(t, sign+s.text, api.ErrForm)
			refused(t, s.text+sign, api.ErrForm)
			refused(t, s.text+" "+sign, api.ErrForm)
		}
	}
}

// P11.1: blanks within a word or a number, and those that are not read within a string.
func TestBlanksWithin(t *testing.T) {
	for _, blank := range []string{" ", "\t", "\n", "\r"} {
		for _, s := range []string{"null", "true", "false", "-12", "1.5", "12.50e+3", "1e5", "10", "-0"} {
			for at := 1; at < len(s); at++ {
				refused(t, s[:at]+blank+s[at:], api.ErrForm)
				refused(t, "["+s[:at]+blank+s[at:]+"]", api.ErrForm)
				refused(t, `{"a":`+s[:at]+blank+s[at:]+"}", api.ErrForm)
			}
		}
	}
	for _, blank := range []string{"\t", "\n", "\r"} {
		refused(t, `"`+blank+`"`, api.ErrForm)
		refused(t, `{"a`+blank+`":1}`, api.ErrForm)
	}
	parses(t, `{" a  b ":"  c "}`, object(keyed(" a  b ", text("  c "))))
}

// P11.1: nothing at all, and blanks alone.
func TestNothing(t *testing.T) {
	if l, err := json.Parse(nil); len(l) != 0 || err != api.ErrForm {
		t.Error(l, err)
	}
	for _, s := range []string{"", " ", "\t", "\n", "\r", "    ", " \t\r\n", strings.Repeat(" ", 100000)} {
		refused(t, s, api.ErrForm)
	}
}

// P11.1: each beginning of a right text that is cut off.
func TestCutOff(t *testing.T) {
	cut := func(s string) {
		for at := range len(s) {
			refused(t, s[:at], api.ErrForm)
			refused(t, s[:at]+" ", api.ErrForm)
		}
	}
	for _, s := range mixed() {
		cut("[" + s.text + "]")
		cut("[[0]," + s.text + "]")
		cut(`{"a":` + s.text + "}")
		cut(`{"\n":1,"` + "\u20ac" + `":` + s.text + "}")
		if s.row[0].Kind != api.JsonNumber {
			cut(s.text)
		}
	}
	cut(strings.Join(tokens, ""))
	cut(strings.Join(tokens, " "))
	for s, size := range map[string]int{"-1": 1, "1.5": 2, "-0.5e5": 5, "1e+5": 3} {
		refused(t, s[:size], api.ErrForm)
	}
}

// P11.1: what stands where it can't be part of JSON.
func TestWrongForm(t *testing.T) {
	for _, s := range []string{
		"[,]", "[,1]", "[1,]", "[1,,2]", "[,,]", "[1,2,]", "[[],]", "[1 2]", "[1\n2]", `["a""b"]`, "[[][]]", "[{}{}]", "[null true]", "[1true]", "[1:2]", `["a":1]`, "[:]", "[1;2]",
		"{,}", `{,"a":1}`, `{"a":1,}`, `{"a":1,,"b":2}`, `{"a":1"b":2}`, `{"a":1 "b":2}`, `{"a" 1}`, `{"a"1}`, `{"a"}`, `{"a":}`, `{"a":,}`, `{"a":,"b":1}`, `{"a",1}`, `{"a"::1}`, `{"a":1:2}`, `{"a":"b":1}`, `{:1}`, `{"a"=1}`, `{"a"=>1}`, `{"a":1;"b":2}`, `{"a","b"}`, `{"a":1,"b"}`, `{"a":1,"b":}`,
		"{1:2}", "{null:1}", "{a:1}", "{'a':1}", `{[]:1}`, `{{}:1}`, `{true:1}`, `{"a":1,2:3}`, `{"a":1,b:3}`, "{1}", "{null}", "{[]}", "{{}}", `{["a"]:1}`,
		"[", "]", "{", "}", "[}", "{]", "[1}", `{"a":1]`, "[[]}", `{"a":[}]`, "[{]}", "(1)", "(", ")", "<>", ",", ":", "[[1]", "[1]]", "{}}", "}{", "][", "[{]", `{"a":{}`, `{"a":{}}}`,
		"nul", "nulL", "Null", "NULL", "nulll", "null0", "nullnull", "nil", "none", "n", "nxll", "tru", "True", "TRUE", "truee", "trve", "t", "fals", "False", "FALSE", "falsee", "fa1se", "f", "undefined", "NaN", "Infinity", "-Infinity", "inf", "yes", "nulltrue", "truefalse", "\u0274ull",
		"'a'", "`a`", "a", "abc", "\u201ca\u201d", "@", "$", "%", "&", "*", "?", "!", "~", "\\", "\\n", "\\u0031", "//", "/**/1", "1//", "1/*a*/", "[1/**/]", "\xef\xbb\xbf1", "\xef\xbb\xbf[]", "\xfe\xff", "=", "+", "|", "^",
	} {
		refused(t, s, api.ErrForm)
		refused(t, "  "+s+"\n", api.ErrForm)
		refused(t, `[{"k":`+s+"},1]", api.ErrForm)
		asModel(t, "["+s+"]]")
	}
}

// P11.1: each word with each letter wrong, missing, twice, or great.
func TestWords(t *testing.T) {
	for _, s := range []string{"null", "true", "false"} {
		for at := range len(s) {
			for _, part := range []string{"", s[at:at+1] + s[at:at+1], strings.ToUpper(s[at : at+1]), "x", " ", "0", "\"", "\x00", "\xff", "\u00e4"} {
				bad := s[:at] + part + s[at+1:]
				refused(t, bad, api.ErrForm)
				refused(t, "["+bad+"]", api.ErrForm)
				refused(t, `{"a":`+bad+"}", api.ErrForm)
			}
		}
	}
}

// P11.1: what stands behind JSON.
func TestBehind(t *testing.T) {
	for _, s := range mixed() {
		for _, behind := range []string{"x", ",", ":", "]", "}", "[", "{", "{}", "[]", "\"", `""`, "null", "true,", "-", "-1", "\x00", "\xff", "\\", "/", "//", ",1", "]]", "\u00a0", "\ufeff", "\x1a"} {
			refused(t, s.text+behind, api.ErrForm)
			refused(t, s.text+" "+behind, api.ErrForm)
			refused(t, s.text+"\n"+behind+"\n", api.ErrForm)
		}
		refused(t, s.text+" 1", api.ErrForm)
		refused(t, s.text+"\n"+s.text, api.ErrForm)
	}
}

// P11.1: numbers, as long as they can be.
func TestNumbers(t *testing.T) {
	for _, s := range []string{"0", "-0", "1", "-1", "9", "10", "1234567890", "0.0", "-0.50", "12.5", "1e1", "1E1", "1e+1", "1e-1", "0e0", "0E+00", "-12.50e-03", "9223372036854775808", "-9223372036854775809", "1e999999999", "1" + strings.Repeat("0", 100000), "0." + strings.Repeat("1", 100000), "1e" + strings.Repeat("9", 100000)} {
		want := number(s)
		parses(t, s, want)
		parses(t, " "+s+" ", want)
		parses(t, "["+s+"]", list(want))
		parses(t, "["+s+","+s+" ]", list(want, want))
		parses(t, `{"a":`+s+"}", object(keyed("a", want)))
		parses(t, `{"a":`+s+`,"b":`+s+"\n}", object(keyed("a", want), keyed("b", want)))
		for _, behind := range []string{"-", "+", "-1", "+1", ".", "..", ".e", "e", "e+", "E-", "x", "f", "_1", " 1", "\"", "null", "[", "{", ":", "\x00", "\xff", "\u0661", "/", "%"} {
			refused(t, s+behind, api.ErrForm)
			refused(t, "["+s+behind+"]", api.ErrForm)
			refused(t, `{"a":`+s+behind+"}", api.ErrForm)
		}
	}
	for _, s := range []string{"-", "--1", "+", "+1", "-+1", "- 1", ".5", "-.5", "00", "01", "-01", "007", "1.", "-1.", "0.", "1.e5", "1.x", "1e", "1E", "1e+", "1e-", "1e+-1", "1e5.5", "1.5.5", "1e1e1", "0x10", "0b1", "1,0", "1_0", "-a", "-n", "-null", "-\"", "-[]", "-{}", "e5", "\u0661", "\uff11", "1\u0661"} {
		refused(t, s, api.ErrForm)
		refused(t, s+" ", api.ErrForm)
		refused(t, `{"a":`+s+"}", api.ErrForm)
		if s != "1,0" {
			refused(t, "["+s+"]", api.ErrForm)
			refused(t, "[1,"+s+",1]", api.ErrForm)
		}
	}
}

// P11.1: strings with wrong escapes, wrong bytes, or no end.
func TestStrings(t *testing.T) {
	for s, want := range map[string]string{`"\u0041\n"`: "A\n", `"\/"`: "/", `"\uD83D\ude00"`: "\U0001f600", `"\ud7ff\ue000\uffff"`: "\ud7ff\ue000\uffff", `"\\\""`: `\"`, "\"\x7f\u0080\U0010ffff\"": "\x7f\u0080\U0010ffff", `"\\u0041"`: `\u0041`} {
		parses(t, s, text(want))
		parses(t, "["+s+","+s+"]", list(text(want), text(want)))
		parses(t, "{"+s+":"+s+"}", object(keyed(want, text(want))))
	}
	for _, part := range []string{
		`\`, `\x41`, `\a`, `\v`, `\0`, `\'`, `\N`, `\U0041`, `\u`, `\u1`, `\u12`, `\u123`, `\u12g4`, `\u+123`, `\u 123`, `\ud800`, `\udbff`, `\udc00`, `\udfff`, `\ud800\ud800`, `\udc00\ud800`, `\ud800x`, `\ud800\n`, `\ud83d\u0041`, `\ud83d\u`, "\\\n", "\\\u00e4",
		"\x00", "\t", "\n", "\r", "\x1f", "\x80", "\xbf", "\xc0\x80", "\xc3", "\xe2\x82", "\xed\xa0\x80", "\xf0\x9f\x98", "\xf4\x90\x80\x80", "\xf5\x80\x80\x80", "\xff", "\xfe",
	} {
		for _, s := range []string{part, "a" + part, part + "z", "\u00e4" + part + "\u20ac", `\n` + part + "z"} {
			refused(t, `"`+s+`"`, api.ErrForm)
			refused(t, `["`+s+`"]`, api.ErrForm)
			refused(t, `{"`+s+`":1}`, api.ErrForm)
			refused(t, `{"a":"`+s+`"}`, api.ErrForm)
			refused(t, `{"a":1,"`+s+`":1}`, api.ErrForm)
		}
	}
	for _, s := range []string{`"`, `"a`, `"a\"`, `["a]`, `["a,1]`, `{"a:1}`, `{"a":"b}`, `"a\\\"`, `a"`, `""a"`, `"a"b"`, `["a"b]`} {
		refused(t, s, api.ErrForm)
	}
}

// spelled are two ways in which one Key is told.
var spelled = [][2]string{
	{`"a"`, `"a"`}, {`"a"`, `"\u0061"`}, {`"\u0061"`, `"a"`}, {`"\u004A"`, `"\u004a"`}, {`""`, `""`}, {`"/"`, `"\/"`}, {`"\n"`, `"\u000a"`}, {`"\""`, `"\u0022"`}, {`"\\"`, `"\u005C"`}, {`"\u0000"`, `"\u0000"`},
	{"\"\u00e4\"", `"\u00e4"`}, {"\"\u20ac\"", `"\u20AC"`}, {"\"\U0001f600\"", `"\ud83d\ude00"`}, {`"\uD83D\uDE00"`, `"\ud83d\ude00"`}, {"\"\ufffd\"", `"\ufffd"`}, {`"abc"`, `"a\u0062c"`},
}

// P11.1: a Key twice in one object.
func TestTwice(t *testing.T) {
	for _, keys := range spelled {
		a, b := keys[0], keys[1]
		for _, value := range []string{"1", "null", `"a"`, "[]", "{}", `[{"a":[1]}]`, "{" + b + ":{" + a + ":1}}"} {
			refused(t, "{"+a+":"+value+","+b+":"+value+"}", api.ErrTwice)
			refused(t, " { "+a+" : "+value+" , "+b+" : "+value+" } ", api.ErrTwice)
			refused(t, `{"y":0,`+a+":"+value+`,"z":{},`+b+":"+value+`,"x":1}`, api.ErrTwice)
			refused(t, `[1,{"k":{`+a+":"+value+","+b+":"+value+"}}]", api.ErrTwice)
			refused(t, "{"+a+":"+value+","+b, api.ErrTwice)
		}
	}
	var many strings.Builder
	for k := range 3000 {
		many.WriteString(`"` + strconv.Itoa(k) + `":1,`)
	}
	for _, k := range []string{"0", "1", "1499", "2998", "2999"} {
		refused(t, "{"+many.String()+`"`+k+`":1}`, api.ErrTwice)
	}
	asModel(t, "{"+many.String()+`"3000":1}`)
}

// P11.1: one Key in two objects, and Keys that are others.
func TestNotTwice(t *testing.T) {
	for _, keys := range spelled {
		a, b := keys[0], keys[1]
		for _, s := range []string{
			"{" + a + ":{" + b + ":1}}", "{" + a + ":{" + b + ":{" + a + ":[{" + b + ":1}]}}}", "[{" + a + ":1},{" + b + ":1}]",
			`{"y":{` + a + ":1}," + b + ":1}", "{" + a + `:1,"y":{` + b + ":1}}", `{"y":{` + a + `:1},"z":{` + b + ":1}}", "{" + a + ":" + b + "}", "{" + a + ":[" + a + "," + b + `],"y":` + b + "}",
		} {
			asModel(t, s)
			if l, err := json.Parse([]byte(s)); err != api.OK || len(l) < 2 {
				t.Errorf("%q: %v", s, err)
			}
		}
		refused(t, "{"+a+":{"+b+`:1},"y":1,`+b+":1}", api.ErrTwice)
		refused(t, `{"y":{`+a+`:1},"z":[{`+b+":1}],"+b+":1,"+a+":1}", api.ErrTwice)
	}
	parses(t, `{"a":1,"A":2,"aa":3,"":4," ":5,"a ":6,"\u0000":7,"a\u0000":8,"`+"\u00e4\":9,\"a\u0308\":0,\"\u00c4\":1,\"\uff41\":2,\"\\\\u0061\":3}", object(
		keyed("a", number("1")), keyed("A", number("2")), keyed("aa", number("3")), keyed("", number("4")), keyed(" ", number("5")), keyed("a ", number("6")), keyed("\x00", number("7")), keyed("a\x00", number("8")),
		keyed("\u00e4", number("9")), keyed("a\u0308", number("0")), keyed("\u00c4", number("1")), keyed("\uff41", number("2")), keyed(`\u0061`, number("3"))))
}

// P11.1: ErrTwice is told behind the string, whatever stands there.
func TestTwiceIsToldAtOnce(t *testing.T) {
	for c := range 256 {
		refused(t, `{"a":1,"a"`+string([]byte{byte(c)}), api.ErrTwice)
		refused(t, `{"b":[],"a":{"a":1},"\u0061"`+string([]byte{byte(c)})+"}", api.ErrTwice)
	}
	for _, s := range []string{"", ":", ":x", ":2", ":2}", ":2}x", `"`, "}", ",", `:2,"a":3}`} {
		refused(t, `{"a":1,"a"`+s, api.ErrTwice)
	}
	for _, s := range []string{`{"a":1,"a`, `{"a":1,"a\`, `{"a":1,"a\"`, "{\"a\":1,\"a\xff\"", "{\"a\":1,\"a\n\"", `{"a":1,"a\u`, `{"a":1,a"`, `{"a":1;"a"`, `{"a":1"a"`, `{"a":x,"a"`, `{"a"1,"a"`, `{"a":1}"a"`, `{"a":1,,"a"`, `{"a":1,:"a"`, `["a":1,"a"`} {
		refused(t, s, api.ErrForm)
	}
}

// nest is count lists or objects in one another, open, as the bits of how tell.
func nest(count, how int) string {
	var b strings.Builder
	for k := range count {
		if how>>(k%30)&1 == 0 {
			b.WriteString("[")
		} else {
			b.WriteString(`{"a":`)
		}
	}
	return b.String()
}

// shut is what ends a nest.
func shut(count, how int) string {
	var b strings.Builder
	for k := count - 1; k >= 0; k-- {
		b.WriteByte("]}"[how>>(k%30)&1])
	}
	return b.String()
}

// hows are some ways of mixing lists and objects.
var hows = []int{0, -1, 0x15555555, 0x2aaaaaaa, 1 << 19, ^(1 << 19)}

// P11.1: a value in 49 others is fine, and one in 50 is not.
func TestDeep(t *testing.T) {
	for _, how := range hows {
		for _, s := range samples() {
			for _, count := range []int{1, 2, 10, 48, 49} {
				want := s.row
				for k := count - 1; k >= 0; k-- {
					if how>>(k%30)&1 == 0 {
						want = list(want)
					} else {
						want = object(keyed("a", want))
					}
				}
				both(t, sample{nest(count, how) + s.text + shut(count, how), want})
			}
			for _, count := range []int{50, 51, 52, 60, 100, 10000} {
				refused(t, nest(count, how)+s.text+shut(count, how), api.ErrFull)
				refused(t, nest(count, how)+s.text, api.ErrFull)
			}
		}
		asModel(t, nest(49, how)+"[]"+shut(49, how))
		asModel(t, nest(49, how)+"{}"+shut(49, how))
		refused(t, nest(49, how)+"[1]"+shut(49, how), api.ErrFull)
		refused(t, nest(49, how)+`{"a":1}`+shut(49, how), api.ErrFull)
	}
}

// P11.1: what stands in 50 others.
func TestWrongInDeep(t *testing.T) {
	for _, how := range hows {
		for c := range 256 {
			b := string([]byte{byte(c)})
			want := api.ErrForm
			if strings.Contains(begins, b) {
				want = api.ErrFull
			}
			// A blank is no value yet, and the last list may be one of none.
			open := strings.Contains(" \t\n\r", b) || how>>19&1 == 0 && b == "]"
			for _, s := range []string{b, "\n " + b, b + b, b + "x", b + "\xff", b + " 1", b + `":1`} {
				if !open {
					refused(t, nest(50, how)+s, want)
					refused(t, nest(50, how)+s+shut(50, how), want)
				}
				asModel(t, nest(50, how)+s+shut(50, how))
				asModel(t, nest(49, how)+s)
				asModel(t, nest(49, how)+s+shut(49, how))
			}
		}
		refused(t, nest(50, how), api.ErrForm)
		refused(t, nest(50, how)+" ", api.ErrForm)
		refused(t, nest(49, how), api.ErrForm)
		refused(t, nest(49, how)+"{1", api.ErrForm)
		refused(t, nest(49, how)+`{"a"`, api.ErrForm)
		refused(t, nest(49, how)+`{"a" 1`, api.ErrForm)
		refused(t, nest(49, how)+`{"a":`, api.ErrForm)
		refused(t, nest(49, how)+`{"a":x`, api.ErrForm)
		refused(t, nest(49, how)+`{"a":1`, api.ErrFull)
		refused(t, nest(49, how)+`{"a":n,"a"`, api.ErrFull)
		refused(t, nest(48, how)+`{"a":1,"a":[[1`, api.ErrTwice)
		refused(t, nest(48, how)+`{"a":1,"b":[[1`, api.ErrFull)
		refused(t, nest(48, how)+`{"a":[[1]],"a":x`, api.ErrFull)
	}
}

// P11.1: how many others a value is in is told of each value anew.
func TestDeepAgain(t *testing.T) {
	deep := nest(48, 0) + "1" + shut(48, 0)
	asModel(t, "["+strings.Repeat(deep+",", 50)+deep+"]")
	parses(t, "["+strings.Repeat("[],", 3000)+"{}]", list(append(slices.Repeat([]row{list()}, 3000), object())...))
	for _, s := range []string{deep + ",[[" + deep, deep + "," + deep + `,{"a":[1` + deep, "[[]],[[[]]],[" + deep + "," + nest(50, 0)} {
		asModel(t, "["+s)
	}
	refused(t, "["+deep+",["+deep+"]]", api.ErrFull)
	refused(t, "["+deep+","+deep+`,{"a":`+deep+"}]", api.ErrFull)
	asModel(t, `{"a":`+deep+`,"b":`+deep+`,"c":[`+deep[1:len(deep)-1]+"]}")
}

// P11.1: 5000 values are fine, and one more is not.
func TestMany(t *testing.T) {
	for _, s := range samples() {
		for _, count := range []int{4997, 4998, 4999} {
			both(t, sample{"[" + strings.Repeat(s.text+",", count-1) + s.text + "]", list(slices.Repeat([]row{s.row}, count)...)})
		}
		for _, count := range []int{5000, 5001, 6000, 20000} {
			refused(t, "["+strings.Repeat(s.text+",", count-1)+s.text+"]", api.ErrFull)
		}
		both(t, sample{`{"a":[` + strings.Repeat("0,", 4996) + `0],"b":` + s.text + "}", object(keyed("a", list(slices.Repeat([]row{number("0")}, 4997)...)), keyed("b", s.row))})
		refused(t, `{"a":[`+strings.Repeat("0,", 4997)+`0],"b":`+s.text+"}", api.ErrFull)
		refused(t, strings.Repeat("[]", 1)+s.text, api.ErrForm)
	}
	var members []string
	for k := range 5001 {
		members = append(members, `"`+strconv.Itoa(k)+`":{}`)
	}
	asModel(t, "{"+strings.Join(members[:4999], ",")+"}")
	refused(t, "{"+strings.Join(members[:5000], ",")+"}", api.ErrFull)
	refused(t, "{"+strings.Join(members, ",")+"}", api.ErrFull)
	// Of a list that has a list each, two values at a time.
	asModel(t, "["+strings.Repeat("[1],", 2498)+"[1],[]]")
	refused(t, "["+strings.Repeat("[1],", 2499)+"[1]]", api.ErrFull)
	asModel(t, "["+strings.Repeat("[1],", 2499)+"[]]")
}

// P11.1: what stands where the 5001st value may.
func TestWrongAtMany(t *testing.T) {
	some := strings.Repeat("0,", 4997) // behind [, 4998 values
	for _, ahead := range []string{"[" + some + "0,0,", "[" + some + "0,[", "[" + some + `0,{"a":`, "[" + some + `{"a":0,"b":`, `{"a":[` + some + `0],"b":`, `[[` + some + "0],"} {
		for c := range 256 {
			b := string([]byte{byte(c)})
			want := api.ErrForm
			if strings.Contains(begins, b) {
				want = api.ErrFull
			}
			if b == "]" && strings.HasSuffix(ahead, "0,[") {
				continue
			}
			refused(t, ahead+b, want)
			if want == api.ErrFull || strings.Contains("x]},: \"", b) {
				refused(t, ahead+" "+b+"x]]", want)
				refused(t, ahead+b+b, want)
			}
		}
		refused(t, ahead, api.ErrForm)
		refused(t, ahead+" ", api.ErrForm)
	}
	parses(t, "["+some+"0,[ ] ]", list(append(slices.Repeat([]row{number("0")}, 4998), list())...))
	parses(t, "["+some+"0,{ } ]", list(append(slices.Repeat([]row{number("0")}, 4998), object())...))
	full := "[" + some + "0,0"
	refused(t, full, api.ErrForm)
	refused(t, full+" 1", api.ErrForm)
	refused(t, full+"}", api.ErrForm)
	refused(t, full+",]", api.ErrForm)
	refused(t, full+"]]", api.ErrForm)
	refused(t, full+"] 1", api.ErrForm)
	refused(t, full+"][", api.ErrForm)
	refused(t, full+`] "`, api.ErrForm)
	refused(t, "["+some+`{"a":0,"a":1`, api.ErrTwice)
	refused(t, "["+some+`{"a":0,"b":1,"a":1`, api.ErrFull)
	refused(t, "["+some+`{"a":0,"b" 1`, api.ErrForm)
	refused(t, "["+some+`{"a":0,"b`, api.ErrForm)
	refused(t, "["+some+`{"a":0,1`, api.ErrForm)
	refused(t, "["+some+`{"a":0,}`, api.ErrForm)
	refused(t, "["+some+"0,{1", api.ErrForm)
	refused(t, "["+some+`0,{"a"}`, api.ErrForm)
}

// P11.1: of two errors the one that is met first.
func TestFirstError(t *testing.T) {
	const form, twice, also = `"f":x,`, `"t":1,"t":1,`, `"g":1 1,`
	full := `"u":` + nest(50, 0) + "1" + shut(50, 0) + ","
	many := `"m":[` + strings.Repeat("1,", 5000) + "1],"
	faults := map[string]api.Errno{form: api.ErrForm, also: api.ErrForm, twice: api.ErrTwice, full: api.ErrFull, many: api.ErrFull}
	for a, want := range faults {
		for b := range faults {
			refused(t, "{"+a+b+`"z":0}`, want)
			refused(t, `{"k":0,`+a+`"l":0,`+b+`"z":0}`, want)
			refused(t, `[[],{"k":{`+a+`"z":0}},{`+b+`"z":0}]`, want)
			refused(t, "{"+a+`"z":0}`+b, want)
		}
	}
}

// P11.1: each byte of right JSON changed, left out, or with another ahead.
func TestEachByte(t *testing.T) {
	for _, s := range []string{strings.Join(tokens, ""), strings.Join(tokens, " "), "[-1.5e+3,\"\\u00e4\\\\\u20ac\",null,{\"a\":false,\"b\":[]}]", `{"a":{"b":1},"c":{"d":{}}}`} {
		for at := range len(s) {
			asModel(t, s[:at]+s[at+1:])
			asOthers(t, s[:at]+s[at+1:])
			for c := range 256 {
				b := string([]byte{byte(c)})
				asModel(t, s[:at]+b+s[at+1:])
				asModel(t, s[:at]+b+s[at:])
				asOthers(t, s[:at]+b+s[at:])
			}
		}
	}
}

// P11.1: all short mixes of the parts that matter.
func TestShortMixes(t *testing.T) {
	mix := func(size int, parts ...string) {
		count := 1
		for range size {
			count *= len(parts)
		}
		for k := range count {
			var s string
			for range size {
				s += parts[k%len(parts)]
				k /= len(parts)
			}
			asModel(t, s)
		}
	}
	for size := range 7 {
		mix(size, "{", "}", "[", "]", ",", ":", `"a"`, "1")
	}
	for size := range 5 {
		mix(size, "{", "}", "[", "]", ",", ":", `"a"`, `"\u0061"`, `"b`, "null", "true", "-", " ", "\v", "0.", "x")
		mix(size, `{"a":`, `"a":`, `"\u0061":`, `"b":`, "{}", "{", "}", "[", "]", ",", "1", "nul")
	}
	for size := range 8 {
		mix(size, "[", "]", ",", "1", "{}")
		mix(size, `{"a":`, `,"b":`, `,"a":`, "1", "}")
	}
}

// P11.1: JSON that others write, and read.
func TestJSONOfOthers(t *testing.T) {
	for _, s := range mixed() {
		asOthers(t, s.text)
		asOthers(t, " "+s.text+"\n")
		asOthers(t, s.text+",")
		asOthers(t, "["+s.text)
	}
	const manifest = `{
  "schemaVersion": 2,
  "config": {"mediaType": "application/vnd.oci.image.config.v1+json", "digest": "sha256:44136fa355b3678a1146ad16f7e8649e94fb4fc21fe77e8310c060f61caaff8a", "size": 2},
  "layers": [],
  "annotations": {"org.opencontainers.image.title": "a\u00e4\"<>&\u2028"}
}`
	asOthers(t, manifest)
	parses(t, manifest, object(
		keyed("schemaVersion", number("2")),
		keyed("config", object(keyed("mediaType", text("application/vnd.oci.image.config.v1+json")), keyed("digest", text("sha256:44136fa355b3678a1146ad16f7e8649e94fb4fc21fe77e8310c060f61caaff8a")), keyed("size", number("2")))),
		keyed("layers", list()),
		keyed("annotations", object(keyed("org.opencontainers.image.title", text("a\u00e4\"<>&\u2028")))),
	))
}

// P11.5: what is parsed is right, and printed in one form, which is parsed the same again.
func TestParsedIsRight(t *testing.T) {
	for s, want := range map[string]string{
		" 1 ": "1", "-0": "-0", "1E+05": "1E+05", "1.50": "1.50", "\t[ ]": "[]", "{\n}": "{}", `"\u0041\/"`: `"A/"`, `"\u000A"`: `"\n"`, `"\u001F"`: `"\u001f"`, `"\ud83d\ude00"`: "\"\U0001f600\"",
		`{ "\u0062" : [ 1 , 2 ] , "a" : null }`: `{"b":[1,2],"a":null}`, "[\r\n  {\"\\u00e4\": \"\\u007f\"}\r\n]": "[{\"\u00e4\":\"\x7f\"}]",
	} {
		l, err := json.Parse([]byte(s))
		if err != api.OK {
			t.Errorf("%q: %v", s, err)
		}
		right(t, l, want)
		parses(t, want, l)
	}
	for _, s := range mixed() {
		l, _ := json.Parse([]byte(" \n" + s.text + "\t"))
		right(t, l, s.text)
	}
}

// P11.4: what is handed in is not changed, nor looked at behind its end, nor kept; what is answered is the caller's own, its spare room too.
func TestParsedIsApart(t *testing.T) {
	const s = `{"key":[12345,"text",{"k":"t"}],"l":67890}`
	want := object(keyed("key", list(number("12345"), text("text"), object(keyed("k", text("t"))))), keyed("l", number("67890")))
	room := []byte(s + `,1]}x`)
	l, err := json.Parse(room[:len(s)])
	if !slices.Equal(l, want) || err != api.OK || string(room) != s+`,1]}x` {
		t.Errorf("%s, %v, %q", brief(l), err, room)
	}
	for k := range room {
		room[k] = 'z'
	}
	if !slices.Equal(l, want) {
		t.Errorf("the row shares the bytes that it was parsed of: %s", brief(l))
	}
	other, _ := json.Parse([]byte(s))
	for k := range l[:cap(l)] {
		l[:cap(l)][k] = api.Value{Kind: 9, Key: "z", Text: "z", Count: 9}
	}
	if !slices.Equal(other, want) {
		t.Errorf("two answers share values: %s", brief(other))
	}
	parses(t, s, want)
	for _, bad := range []string{s + "x", s[:len(s)-1], strings.Replace(s, `"l"`, `"key"`, 1)} {
		room := []byte(bad + "]}")
		json.Parse(room[:len(bad)])
		if string(room) != bad+"]}" {
			t.Errorf("%q: %q", bad, room)
		}
	}
}

// P11.4: a short text is no piece of all that was read, which it would hold on to.
func TestTextsAreApart(t *testing.T) {
	s := `[1234,"` + strings.Repeat("a", 1001) + `",5678]`
	l, err := json.Parse([]byte(s))
	if err != api.OK || len(l) != 4 {
		t.Fatal(brief(l), err)
	}
	a, b := unsafe.Pointer(unsafe.StringData(l[1].Text)), unsafe.Pointer(unsafe.StringData(l[3].Text))
	// An odd number of bytes, which never lies between two texts of four bytes else.
	if uintptr(b)-uintptr(a) == uintptr(strings.Index(s, "5678")-strings.Index(s, "1234")) {
		t.Error("two numbers lie as they lay in what was parsed")
	}
}

// W2: what was parsed before does not matter.
func TestTwiceTheSame(t *testing.T) {
	for range 2 {
		for _, s := range mixed() {
			refused(t, nest(49, 0)+"["+s.text, api.ErrFull)
			refused(t, `{"k":1,"k":`+s.text, api.ErrTwice)
			refused(t, s.text+"]", api.ErrForm)
			both(t, s)
		}
	}
}

// W1: much of what is read, and of what is not.
func TestMuch(t *testing.T) {
	const much = 1 << 22
	long := strings.Repeat("x\u00e4", much)
	parses(t, `"`+long+`"`, text(long))
	parses(t, `{"`+long+`":[`+strings.Repeat(" \n", much)+"]}", object(keyed(long, list())))
	parses(t, strings.Repeat("7", much), number(strings.Repeat("7", much)))
	refused(t, strings.Repeat("[", much), api.ErrFull)
	refused(t, strings.Repeat(`{"a":`, much), api.ErrFull)
	refused(t, strings.Repeat("]", much), api.ErrForm)
	refused(t, "["+strings.Repeat("1,", much), api.ErrFull)
	refused(t, "["+strings.Repeat("[],", much), api.ErrFull)
	refused(t, `"`+long, api.ErrForm)
	refused(t, strings.Repeat(" ", much), api.ErrForm)
	refused(t, "1"+strings.Repeat(" ", much)+"x", api.ErrForm)
	refused(t, strings.Repeat("\x00", much), api.ErrForm)
	// Each of many texts is read once, however much stands behind it.
	var l []row
	for range 4998 {
		l = append(l, text("a"))
	}
	parses(t, "["+strings.Repeat(`"a",`, 4998)+`"`+long+`"]`, list(append(l, text(long))...))
}

// P11.1, P11.5, W1: any bytes are parsed as other hands parse them; what is parsed is right, and printed and parsed as it was.
func FuzzParse(f *testing.F) {
	for _, s := range mixed() {
		f.Add(s.text)
		f.Add(" " + s.text + ",")
	}
	for _, s := range []string{"", strings.Join(tokens, "\t"), `{"a":1,"\u0061":1}`, nest(50, 0x15555555), nest(50, 0) + "1", nest(49, -1) + `{"a":n`, "[" + strings.Repeat("1,", 5000), `"\ud800"`, "\"\xff\"", "01", "1.", "[1 1]", "{1:1}"} {
		f.Add(s)
	}
	f.Fuzz(func(t *testing.T, s string) {
		asModel(t, s)
		asOthers(t, s)
		asModel(t, "["+s+"]")
		asModel(t, `{"a":`+s)
		if l, err := json.Parse([]byte(s)); err == api.OK {
			rowAsModel(t, l)
		}
	})
}
