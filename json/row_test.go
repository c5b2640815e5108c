package json_test

import (
	"math/bits"
	"slices"
	"strconv"
	"strings"
	"testing"

	"onionskin/api"
	"onionskin/json"
)

// broken are texts that are no right UTF-8.
var broken = []string{"\x80", "\xbf", "\xff", "\xc3", "\xc0\x80", "\xe2\x82", "\xe0\x80\x80", "\xed\xa0\x80", "\xed\xbf\xbf", "\xf0\x9f\x98", "\xf4\x90\x80\x80", "\xf8\x88\x80\x80\x80", "a\xff", "\xffa", "\u00e4\x80", "\ufffd\xef\xbf"}

// changed is a row in which what stands at that place is made another value.
func changed(l row, at int, how func(v *api.Value)) row {
	l = slices.Clone(l)
	how(&l[at])
	return l
}

// P11.2, P11.3, P11.5: right rows of each kind, alone, in lists and in objects.
func TestRows(t *testing.T) {
	for _, s := range mixed() {
		right(t, s.row, s.text)
		rowAsModel(t, s.row)
		for _, other := range mixed() {
			rowAsModel(t, list(s.row, other.row))
			rowAsModel(t, object(keyed("b", s.row), keyed("a", other.row)))
			rowAsModel(t, object(keyed("a", list(s.row, other.row)), keyed("", object(keyed("z", other.row), keyed("y", s.row)))))
			wrong(t, slices.Concat(s.row, other.row))
		}
	}
}

// P11.2: what is printed, written down.
func TestPrint(t *testing.T) {
	right(t, row{{}}, "null")
	right(t, row{{Kind: 1}}, "true")
	right(t, row{{Kind: 2}}, "false")
	right(t, row{{Kind: 3, Text: "1E+05"}}, "1E+05")
	right(t, row{{Kind: 4}}, `""`)
	right(t, row{{Kind: 5}}, "[]")
	right(t, row{{Kind: 6}}, "{}")
	right(t, row{{Kind: 6, Count: 1}, {Kind: 5, Key: "a", Count: 1}, {Kind: 3, Text: "1"}}, `{"a":[1]}`)
	right(t, row{{Kind: 6, Count: 3}, {Kind: 4, Key: "b\n", Text: "\x00/\"\\"}, {Kind: 6, Count: 1}, {Key: "\u00e4", Kind: 2}, {Key: "a"}}, "{\"b\\n\":\"\\u0000/\\\"\\\\\",\"\":{\"\u00e4\":false},\"a\":null}")
	right(t, row{{Kind: 5, Count: 4}, {Kind: 5, Count: 2}, {Kind: 5}, {Kind: 1}, {Kind: 6}, {Kind: 5, Count: 1}, {Kind: 6, Count: 1}, {Kind: 3, Text: "-0"}, {Kind: 4, Text: ","}}, `[[[],true],{},[{"":-0}],","]`)
	right(t, row{{Kind: 6, Count: 2}, {Kind: 6, Key: "z", Count: 2}, {Key: "b"}, {Key: "a"}, {Key: "y"}}, `{"z":{"b":null,"a":null},"y":null}`)
}

// P11.2: none at all.
func TestNoRow(t *testing.T) {
	for _, l := range []row{nil, {}, make(row, 0, 5), row{{}}[:0]} {
		wrong(t, l)
		ends(t, l, 0, -1)
	}
}

// P11.2: Kinds that are none.
func TestKinds(t *testing.T) {
	for _, kind := range []int{-1, 7, 8, 10, 255, 256, 262, 1 << 32, 1<<32 + 5, 1<<62 + 6, -5, -6, api.MaxInt, api.MinInt, api.MinInt + 6} {
		for _, s := range mixed() {
			for at := range s.row {
				wrong(t, changed(s.row, at, func(v *api.Value) { v.Kind = kind }))
			}
		}
		wrong(t, row{{Kind: kind}})
		wrong(t, row{{Kind: kind, Count: 1}, {}})
		wrong(t, list(row{{Kind: kind}}, word(api.JsonNull)))
	}
}

// P11.2: Texts that may not be.
func TestTexts(t *testing.T) {
	for _, kind := range []int{api.JsonNull, api.JsonTrue, api.JsonFalse, api.JsonList, api.JsonObject} {
		for _, s := range []string{"x", "null", "true", "false", "1", "0", " ", "\x00", "[]", "{}", "\u00e4", "\xff"} {
			inEach(t, row{{Kind: kind, Text: s}}, false)
		}
		inEach(t, row{{Kind: kind}}, true)
	}
	for _, s := range []string{"0", "-0", "7", "-12.50e+03", "1E5", "0.0", "10", strings.Repeat("9", 10000)} {
		inEach(t, number(s), true)
		for _, behind := range []string{" ", "\n", ",", "-", "+", ".", "e", "x", "\x00", "\xff", "]", "}", "_", "\""} {
			inEach(t, number(s+behind), false)
			if behind != "-" {
				inEach(t, number(behind+s), false)
			}
		}
	}
	for _, s := range []string{"", "-", "+1", "01", "-01", "00", "1.", ".5", "1e", "1e+", "--1", "0x1", "NaN", "null", `"1"`, "1_0", "\u0661", "1 2", "1,2", "a", "-Infinity"} {
		inEach(t, number(s), false)
	}
	for _, s := range []string{"", "a", "\x00\x1f\"\\/", "\u00e4\u20ac\U0001f600\U0010ffff\ufffd\ufffe", "\xef\xbf\xbd", strings.Repeat("\u00e4", 10000)} {
		inEach(t, text(s), true)
	}
	for _, s := range broken {
		inEach(t, text(s), false)
		inEach(t, text("a"+s+"b"), false)
	}
}

// inEach tells t where a row is not as right as told: alone, in a list, in an object, first, between others, last.
func inEach(t *testing.T, l row, is bool) {
	t.Helper()
	one := number("1")
	for _, l := range []row{l, list(l), list(l, one), list(one, l), list(one, l, one), list(list(l), one), object(keyed("a", l)), object(keyed("a", one), keyed("b", l)), object(keyed("b", object(keyed("b", l))), keyed("a", one))} {
		if is {
			right(t, l, modelPrint(l))
			parses(t, modelPrint(l), l)
		} else {
			wrong(t, l)
		}
	}
}

// P11.2: a Count too great, too small, below 0, or where none may be.
func TestCounts(t *testing.T) {
	for _, s := range mixed() {
		for at, v := range s.row {
			for _, count := range []int{v.Count - 1, v.Count + 1, v.Count + 2, v.Count + 1000, -1, -2, -v.Count, v.Count + 1<<32, v.Count + 1<<62, api.MaxInt, api.MaxInt - 1, api.MinInt, api.MinInt + v.Count} {
				if count == v.Count {
					continue
				}
				l := changed(s.row, at, func(v *api.Value) { v.Count = count })
				rowAsModel(t, l)
				if at == 0 || v.Kind < api.JsonList {
					wrong(t, l)
				}
			}
		}
	}
	for kind := api.JsonNull; kind <= api.JsonString; kind++ {
		v := api.Value{Kind: kind, Text: map[int]string{api.JsonNumber: "1"}[kind]}
		inEach(t, row{v}, true)
		for _, count := range []int{1, 2, -1, api.MaxInt, api.MinInt} {
			v.Count = count
			inEach(t, row{v}, false)
			wrong(t, row{v, {}})
			wrong(t, row{v, {}, {}})
			wrong(t, list(row{v}, word(api.JsonNull)))
			wrong(t, row{{Kind: api.JsonList, Count: 1}, v, {}})
		}
	}
	// Two Counts that together are right.
	wrong(t, row{{Kind: api.JsonList, Count: 3}, {Kind: api.JsonList, Count: -1}})
	wrong(t, row{{Kind: api.JsonList, Count: 2}, {Kind: api.JsonList, Count: -1}, {}})
	wrong(t, row{{Kind: api.JsonList, Count: -1}, {}})
	wrong(t, row{{Kind: api.JsonList, Count: api.MaxInt}, {Kind: api.JsonList, Count: api.MaxInt}, {}})
	wrong(t, row{{Kind: api.JsonList, Count: 1 << 62}, {Kind: api.JsonList, Count: 1 << 62}, {Kind: api.JsonList, Count: 1 << 62}, {Kind: api.JsonList, Count: 1 << 62}})
	wrong(t, row{{Kind: api.JsonObject, Count: api.MinInt}, {Kind: api.JsonObject, Count: api.MinInt}})
}

// P11.2: a Key where none may be.
func TestKeysOfNone(t *testing.T) {
	for _, key := range []string{"a", " ", "\x00", "\u00e4", "\xff", "null"} {
		for _, s := range mixed() {
			wrong(t, keyed(key, s.row))
			wrong(t, list(keyed(key, s.row)))
			wrong(t, list(s.row, keyed(key, s.row)))
			wrong(t, list(keyed(key, s.row), s.row))
			wrong(t, object(keyed("a", list(keyed(key, s.row)))))
			wrong(t, list(list(keyed(key, s.row)), list()))
			wrong(t, keyed(key, list(s.row)))
			wrong(t, keyed(key, object(keyed("a", s.row))))
		}
	}
}

// P11.2: Keys that may be, and that are not right UTF-8.
func TestKeysOfMembers(t *testing.T) {
	for _, key := range []string{"", "a", " ", "\x00\x1f\"\\/\n", "\u00e4", "\u20ac", "\U0001f600\U0010ffff", "\ufffd", strings.Repeat("k", 10000)} {
		for _, s := range samples() {
			inEach(t, object(keyed(key, s.row)), true)
			inEach(t, object(keyed("z", s.row), keyed(key, s.row), keyed("y", s.row)), true)
		}
	}
	for _, key := range broken {
		for _, s := range samples() {
			inEach(t, object(keyed(key, s.row)), false)
			inEach(t, object(keyed("z", s.row), keyed(key, s.row), keyed("y", s.row)), false)
			inEach(t, object(keyed(key, s.row), keyed("\ufffd", s.row)), false)
		}
	}
}

// P11.2: a Key twice.
func TestKeysTwice(t *testing.T) {
	for _, key := range []string{"", "a", "\x00", "\u00e4\u20ac\U0001f600", strings.Repeat("k", 1000)} {
		for _, s := range mixed() {
			l := keyed(key, s.row)
			wrong(t, object(l, l))
			wrong(t, object(l, keyed("z", s.row), l))
			wrong(t, object(keyed("z", s.row), l, keyed("y", s.row), keyed(key, list())))
			wrong(t, list(object(keyed("z", object(l, l)))))
			rowAsModel(t, object(keyed(key, object(l))))
			rowAsModel(t, object(l, keyed("z", object(l, keyed("z", s.row)))))
			rowAsModel(t, list(object(l), object(l)))
			rowAsModel(t, object(l, keyed(key+"a", s.row), keyed(key+"A", s.row), keyed(key+"\x00", s.row)))
		}
	}
	var l []row
	for k := range 4998 {
		l = append(l, keyed(strconv.Itoa(k), number("1")))
	}
	right(t, object(l...), modelPrint(object(l...)))
	for _, k := range []int{0, 1, 2500, 4996, 4997} {
		wrong(t, object(append(slices.Clone(l), l[k])...))
		wrong(t, object(append([]row{l[k]}, l...)...))
	}
}

// P11.2: rows too many, or too few.
func TestRowsTooMany(t *testing.T) {
	for _, s := range mixed() {
		for _, other := range samples() {
			wrong(t, slices.Concat(s.row, other.row))
			wrong(t, slices.Concat(other.row, s.row))
		}
		for at := range s.row {
			wrong(t, s.row[:at])
			rowAsModel(t, slices.Delete(slices.Clone(s.row), at, at+1))
			for _, v := range []api.Value{{}, {Key: "q"}, {Kind: api.JsonNumber, Text: "1"}} {
				wrong(t, slices.Insert(slices.Clone(s.row), at, v))
			}
			rowAsModel(t, slices.Insert(slices.Clone(s.row), at, api.Value{Kind: api.JsonList, Count: 1}))
			rowAsModel(t, s.row[at:])
		}
		wrong(t, append(slices.Clone(s.row), api.Value{}))
	}
}

// chain is count lists or objects in one another, as the bits of how tell, and in the last one a row.
func chain(count, how int, last row) row {
	var l row
	inObject := false
	for k := range count {
		v := api.Value{Kind: api.JsonList + how>>(k%30)&1, Count: 1}
		if inObject {
			v.Key = "a"
		}
		inObject = v.Kind == api.JsonObject
		l = append(l, v)
	}
	if inObject {
		last = keyed("a", last)
	}
	return append(l, last...)
}

// P11.2: a value in 49 others is fine, and one in 50 is not.
func TestDeepRows(t *testing.T) {
	for _, how := range hows {
		for _, s := range samples() {
			for _, count := range []int{1, 2, 10, 48, 49} {
				l := chain(count, how, s.row)
				right(t, l, nest(count, how)+s.text+shut(count, how))
				sorts(t, l, l)
			}
			for _, count := range []int{50, 51, 60, 100, 2000, 4999} {
				l := chain(count, how, s.row)
				wrong(t, l)
				ends(t, l, 0, len(l))
			}
		}
		rowAsModel(t, chain(48, how, list(list())))
		rowAsModel(t, chain(48, how, object(keyed("a", object()))))
		wrong(t, chain(48, how, list(number("1"), list(number("1")))))
		wrong(t, chain(49, how, object(keyed("a", number("1")))))
	}
	deep := chain(48, 0, number("1"))
	rowAsModel(t, list(slices.Repeat([]row{deep}, 50)...))
	rowAsModel(t, list(deep, list(), deep, object(keyed("a", list()))))
	wrong(t, list(deep, list(deep), deep))
	wrong(t, list(deep, chain(49, 0, number("1"))))
}

// P11.2: 5000 values are fine, and one more is not.
func TestManyRows(t *testing.T) {
	for _, s := range samples() {
		for _, count := range []int{4998, 4999} {
			l := list(slices.Repeat([]row{s.row}, count)...)
			right(t, l, "["+strings.Repeat(s.text+",", count-1)+s.text+"]")
			sorts(t, l, l)
		}
		for _, count := range []int{5000, 5001, 20000} {
			l := list(slices.Repeat([]row{s.row}, count)...)
			wrong(t, l)
			ends(t, l, 0, len(l))
		}
		right(t, list(list(slices.Repeat([]row{s.row}, 4997)...), s.row), "[["+strings.Repeat(s.text+",", 4996)+s.text+"],"+s.text+"]")
		wrong(t, list(list(slices.Repeat([]row{s.row}, 4998)...), s.row))
	}
	pairs := slices.Repeat([]row{list(number("1"))}, 2500)
	rowAsModel(t, list(pairs[:2499]...))
	rowAsModel(t, list(append(pairs[:2499:2499], list())...))
	wrong(t, list(pairs...))
	l := list(slices.Repeat([]row{list()}, 4999)...)
	wrong(t, append(l, api.Value{}))
	wrong(t, l[:4999])
}

// P11.3: each place of a row.
func TestEnd(t *testing.T) {
	l := row{{Kind: 6, Count: 2}, {Kind: 5, Key: "b", Count: 3}, {Kind: 3, Text: "1e5"}, {Kind: 1}, {Kind: 6}, {Kind: 4, Key: "a", Text: "A"}}
	for at, want := range []int{6, 5, 3, 4, 5, 6} {
		ends(t, l, at, want)
	}
	l = list(list(list(), number("1")), object(keyed("a", list(list())), keyed("b", word(api.JsonNull))), list())
	for at, want := range []int{9, 4, 3, 4, 8, 7, 7, 8, 9} {
		ends(t, l, at, want)
	}
	for _, s := range mixed() {
		for _, at := range []int{-1, -2, len(s.row), len(s.row) + 1, len(s.row) + 1000, api.MaxInt, api.MinInt, 1 << 32, 1 << 62, -1 << 32, -1 << 62} {
			ends(t, s.row, at, -1)
		}
		for at := range s.row {
			ends(t, s.row, at, modelEnd(s.row, at))
			ends(t, s.row[:at], at, -1)
			for cut := at; cut < modelEnd(s.row, at); cut++ {
				ends(t, s.row[:cut], at, -1)
			}
			ends(t, s.row[:modelEnd(s.row, at)], at, modelEnd(s.row, at))
			ends(t, slices.Concat(s.row, s.row), at, modelEnd(s.row, at))
			ends(t, slices.Concat(s.row, s.row), at+len(s.row), modelEnd(s.row, at)+len(s.row))
		}
	}
}

// P11.3: rows behind one another, and rows that are not right else.
func TestEndOfWrongRows(t *testing.T) {
	l := row{{Text: "x"}, {Key: "k"}, {Kind: 3, Text: "01"}, {Kind: 4, Text: "\xff"}, {Kind: 6, Count: 2}, {Key: "a"}, {Key: "a"}, {Kind: 5, Text: "x", Count: 1}, {Key: "\xff"}}
	for at, want := range []int{1, 2, 3, 4, 7, 6, 7, 9, 9} {
		ends(t, l, at, want)
	}
	// What is neither a list nor an object has no rows, whatever its Count is.
	for _, kind := range []int{0, 1, 2, 3, 4, -1, 7, 8, 1 << 32, 1<<32 + 5, api.MaxInt, api.MinInt} {
		for _, count := range []int{0, 1, 2, 5, api.MaxInt} {
			l := row{{Kind: 5, Count: 2}, {Kind: kind, Count: count}, {Kind: 6, Count: 0}}
			for at, want := range []int{3, 2, 3} {
				ends(t, l, at, want)
			}
		}
		for _, count := range []int{-1, -2, api.MinInt} {
			l := row{{Kind: 5, Count: 2}, {Kind: kind, Count: count}, {Kind: 6, Count: 0}}
			for at, want := range []int{-1, -1, 3} {
				ends(t, l, at, want)
			}
		}
	}
}

// P11.3: Counts that are wrong.
func TestEndOfWrongCounts(t *testing.T) {
	for _, kind := range []int{api.JsonList, api.JsonObject} {
		for _, count := range []int{-1, -2, -3, api.MinInt, api.MinInt + 1, 3, 4, 1000, 1 << 31, 1 << 32, 1<<32 + 2, 1 << 62, api.MaxInt, api.MaxInt - 1} {
			ends(t, row{{Kind: kind, Count: count}, {}, {}}, 0, -1)
			ends(t, row{{Kind: kind, Count: count}, {}, {}}, 1, 2)
			ends(t, row{{Kind: 5, Count: 2}, {}, {Kind: kind, Count: count}}, 0, -1)
			ends(t, row{{Kind: 5, Count: 2}, {}, {Kind: kind, Count: count}}, 2, -1)
			ends(t, row{{Kind: 5, Count: 1}, {}, {Kind: kind, Count: count}}, 0, 2) // behind the way
			ends(t, row{{Kind: 5, Count: 2}, {Kind: kind, Count: count}, {}}, 0, -1)
			ends(t, row{{}, {Kind: kind, Count: count}}, 0, 1)
		}
		for k := range 64 {
			for _, count := range []int{1 << k, 1<<k + 1, 1<<k - 1, -1 << k} {
				l := row{{Kind: kind, Count: count}, {Kind: kind, Count: count}, {Kind: kind, Count: count}, {Kind: kind, Count: count}, {}}
				for at := range l {
					ends(t, l, at, modelEnd(l, at))
				}
			}
		}
	}
	// The first rows are there, and the last one is not.
	ends(t, row{{Kind: 5, Count: 3}, {}, {}}, 0, -1)
	ends(t, row{{Kind: 5, Count: 2}, {Kind: 5, Count: 1}, {}}, 0, -1)
	ends(t, row{{Kind: 5, Count: 2}, {Kind: 5, Count: 2}, {}}, 0, -1)
	ends(t, row{{Kind: 5, Count: 1}}, 0, -1)
	ends(t, row{{Kind: 5, Count: 2}, {}, {Kind: 5, Count: 1}}, 0, -1)
	// Sums that are right when they wrap round.
	ends(t, row{{Kind: 5, Count: 1 << 62}, {Kind: 5, Count: 1 << 62}, {Kind: 5, Count: 1 << 62}, {Kind: 5, Count: 1<<62 + 3}, {}, {}, {}}, 0, -1)
	ends(t, row{{Kind: 5, Count: api.MaxInt}, {Kind: 5, Count: api.MaxInt}, {Kind: 5, Count: 3}, {}, {}}, 0, -1)
}

// W1: rows that are very long, and very deep.
func TestEndOfMuch(t *testing.T) {
	const much = 1 << 21
	l := make(row, much)
	for k := range l {
		l[k] = api.Value{Kind: api.JsonList, Count: 1}
	}
	l[much-1].Count = 0
	ends(t, l, 0, much)
	ends(t, l, much-2, much)
	ends(t, l[:much-1], 0, -1)
	wrong(t, l)
	wrong(t, l[much-5000:])
	right(t, l[much-50:], strings.Repeat("[", 50)+strings.Repeat("]", 50))
	l[much-1].Count = 1
	ends(t, l, 0, -1)
	l = append(row{{Kind: api.JsonObject, Count: much}}, make(row, much)...)
	ends(t, l, 0, much+1)
	ends(t, l[:much], 0, -1)
	wrong(t, l)
	wide := list(slices.Repeat([]row{list(number("1"), text(strings.Repeat("a", 1<<10)))}, 1666)...)
	right(t, wide, modelPrint(wide))
}

// P11.3: rows sorted, written down.
func TestSort(t *testing.T) {
	for from, to := range map[string]string{
		"null": "null", "1": "1", `"b"`: `"b"`, "[]": "[]", "{}": "{}", "[3,1,2]": "[3,1,2]", `["b","a"]`: `["b","a"]`, `{"a":1}`: `{"a":1}`, `{"a":1,"b":2}`: `{"a":1,"b":2}`,
		`{"b":1,"a":2}`:             `{"a":2,"b":1}`,
		`{"c":3,"a":1,"b":2}`:       `{"a":1,"b":2,"c":3}`,
		`{"b":[1,2],"a":{"c":3}}`:   `{"a":{"c":3},"b":[1,2]}`,
		`{"b":{"z":1,"y":2},"a":0}`: `{"a":0,"b":{"y":2,"z":1}}`,
		`[{"b":1,"a":2},{"d":3,"c":[{"f":1,"e":[{"h":[],"g":{}}]}]},1]`:                                                          `[{"a":2,"b":1},{"c":[{"e":[{"g":{},"h":[]}],"f":1}],"d":3},1]`,
		`{"z":{"z":{"z":{"b":1,"a":2},"a":1},"a":1},"a":{"c":[],"b":[[{"b":0,"a":0}]]}}`:                                         `{"a":{"b":[[{"a":0,"b":0}]],"c":[]},"z":{"a":1,"z":{"a":1,"z":{"a":2,"b":1}}}}`,
		`{"ab":1,"a":2,"":3,"abc":4,"b":5,"aa":6,"a ":7,"a\u0000":8}`:                                                            `{"":3,"a":2,"a\u0000":8,"a ":7,"aa":6,"ab":1,"abc":4,"b":5}`,
		`{"b":1,"B":2,"a":3,"A":4,"_":5,"0":6,"~":7," ":8,"\n":9}`:                                                               `{"\n":9," ":8,"0":6,"A":4,"B":2,"_":5,"a":3,"b":1,"~":7}`,
		`{"10":1,"9":2,"1":3,"2":4,"-1":5,"01":6}`:                                                                               `{"-1":5,"01":6,"1":3,"10":1,"2":4,"9":2}`,
		`{"\u00e4":1,"z":2,"\u00c4":3,"\u007f":4,"\u0080":5,"a\u0308":6,"a\u00e4":7,"ab":8,"\u0100":9}`:                          "{\"ab\":8,\"a\u00e4\":7,\"a\u0308\":6,\"z\":2,\"\x7f\":4,\"\u0080\":5,\"\u00c4\":3,\"\u00e4\":1,\"\u0100\":9}",
		`{"\ud83d\ude00":1,"\ufffd":2,"\ue000":3,"\ud7ff":4,"\udbff\udfff":5,"\ud800\udc00":6,"\uffff":7,"\u07ff":8,"\u0800":9}`: "{\"\u07ff\":8,\"\u0800\":9,\"\ud7ff\":4,\"\ue000\":3,\"\ufffd\":2,\"\uffff\":7,\"\U00010000\":6,\"\U0001f600\":1,\"\U0010ffff\":5}",
	} {
		l, err := json.Parse([]byte(from))
		want, e := json.Parse([]byte(to))
		if err != api.OK || e != api.OK {
			t.Errorf("%q, %q: %v, %v", from, to, err, e)
		}
		sorts(t, l, want)
		sorts(t, want, want)
		right(t, json.Sort(l), to)
		sorts(t, list(l, l), list(want, want))
		sorts(t, object(keyed("y", l), keyed("x", l)), object(keyed("x", want), keyed("y", want)))
	}
}

// P11.3: six Keys in each order, and many of them.
func TestSortOfEachOrder(t *testing.T) {
	parts := []row{keyed("", list()), keyed("a", number("1")), keyed("a\x00", object(keyed("a", number("2")))), keyed("aa", word(api.JsonTrue)), keyed("b", list(number("3"), number("4"))), keyed("\u00e4", text("b"))}
	want := object(parts...)
	var each func(l, rest []row)
	each = func(l, rest []row) {
		if len(rest) == 0 {
			sorts(t, object(l...), want)
			sorts(t, list(object(l...)), list(want))
		}
		for k := range rest {
			each(append(l[:len(l):len(l)], rest[k]), slices.Delete(slices.Clone(rest), k, k+1))
		}
	}
	each(nil, parts)
	for _, count := range []int{10, 100, 1000, 4999} {
		var l []row
		for k := range count {
			l = append(l, keyed(strconv.Itoa(int(bits.Reverse16(uint16(k)))), number(strconv.Itoa(k))))
		}
		rowAsModelButEnd(t, object(l...))
		slices.Reverse(l)
		rowAsModelButEnd(t, object(l...))
	}
}

// rowAsModelButEnd tells t where of a right row not all is told that other hands tell, but for End.
func rowAsModelButEnd(t *testing.T, l row) {
	t.Helper()
	right(t, l, modelPrint(l))
	parses(t, modelPrint(l), l)
	sorts(t, l, modelSort(l))
	sorts(t, modelSort(l), modelSort(l))
}

// P11.2, P11.3: all short rows of the values that matter.
func TestShortRows(t *testing.T) {
	mix := func(size int, values ...api.Value) {
		count := 1
		for range size {
			count *= len(values)
		}
		l := make(row, size)
		for k := range count {
			for at := range l {
				l[at] = values[k%len(values)]
				k /= len(values)
			}
			rowAsModel(t, l)
		}
	}
	var all []api.Value
	for _, key := range []string{"", "a"} {
		for _, kind := range []int{api.JsonNull, api.JsonNumber, api.JsonList, api.JsonObject, 7} {
			for count := -1; count <= 2; count++ {
				all = append(all, api.Value{Kind: kind, Key: key, Count: count, Text: map[int]string{api.JsonNumber: "1"}[kind]})
			}
		}
	}
	for size := range 4 {
		mix(size, all...)
	}
	some := []api.Value{{}, {Key: "a"}, {Key: "b", Kind: 4, Text: "b"}, {Kind: 5}, {Kind: 5, Count: 1}, {Kind: 5, Count: 2}, {Kind: 6, Count: 1}, {Kind: 6, Count: 2}, {Kind: 6, Count: 2, Key: "a"}, {Kind: 5, Count: 1, Key: "b"}}
	for size := range 6 {
		mix(size, some...)
	}
	mix(6, api.Value{}, api.Value{Key: "a"}, api.Value{Key: "b"}, api.Value{Kind: 6, Count: 2}, api.Value{Kind: 6, Count: 2, Key: "b"}, api.Value{Kind: 5, Count: 2, Key: "a"})
	mix(7, api.Value{Kind: 5}, api.Value{Kind: 5, Count: 1}, api.Value{Kind: 5, Count: 2}, api.Value{Kind: 5, Count: 3})
}

// P11.4: what is handed in is not changed, nor looked at behind its end, nor kept.
func TestRowsAreNotChanged(t *testing.T) {
	behind := row{{Key: "z", Kind: 3, Text: "9"}, {Kind: 5, Count: 1}, {}}
	for _, s := range append(mixed(), sample{"", row{{Kind: 5, Count: 1}}}, sample{"", row{{Kind: 9}}}, sample{"", object(keyed("b", word(1)), keyed("a", word(2)), keyed("b", word(0)))}) {
		room := slices.Concat(s.row, behind)
		kept := slices.Clone(room)
		l := room[:len(s.row)]
		ok := json.Right(l)
		b, is := json.Print(l)
		sorted := json.Sort(l)
		at := json.End(l, 0)
		if ok != (s.text != "") || is != ok || string(b) != s.text || at != modelEnd(s.row, 0) || ok && !slices.Equal(sorted, modelSort(s.row)) {
			t.Errorf("%s: %t, %t, %s, %s, %d: the room behind the row counts", brief(s.row), ok, is, brief(string(b)), brief(sorted), at)
		}
		if !slices.Equal(room, kept) {
			t.Errorf("%s: %s", brief(kept), brief(room))
		}
	}
}

// P11.4: what is answered is the caller's own, its spare room too.
func TestRowsAreApart(t *testing.T) {
	for _, s := range mixed() {
		l := slices.Clone(s.row)
		sorted := json.Sort(l)
		b, _ := json.Print(l)
		for k := range l[:cap(l)] {
			l[:cap(l)][k] = api.Value{Kind: 9, Key: "z", Text: "z", Count: 9}
		}
		if !slices.Equal(sorted, modelSort(s.row)) || string(b) != s.text {
			t.Errorf("%s: what is answered shares it: %s, %s", brief(s.row), brief(sorted), brief(string(b)))
		}
		other, bytes := json.Sort(s.row), []byte(nil)
		bytes, _ = json.Print(s.row)
		for k := range sorted[:cap(sorted)] {
			sorted[:cap(sorted)][k] = api.Value{Kind: 9, Key: "z", Text: "z", Count: 9}
		}
		for k := range b[:cap(b)] {
			b[:cap(b)][k] = 'z'
		}
		if !slices.Equal(other, modelSort(s.row)) || string(bytes) != s.text {
			t.Errorf("%s: two answers share memory: %s, %s", brief(s.row), brief(other), brief(string(bytes)))
		}
		both(t, s)
	}
}

// W2: what was asked before does not matter.
func TestRowsTwiceTheSame(t *testing.T) {
	for range 2 {
		for _, s := range mixed() {
			wrong(t, append(slices.Clone(s.row), api.Value{}))
			wrong(t, object(keyed("k", s.row), keyed("k", s.row)))
			rowAsModel(t, s.row)
			rowAsModel(t, object(keyed("k", s.row), keyed("a", s.row)))
		}
	}
}

// P11.2, P11.3, P11.5, W1: of any rows all is told that other hands tell.
func FuzzRows(f *testing.F) {
	f.Add([]byte{}, "a", "1", "\xff")
	f.Add([]byte{5, 2, 3, 0, 4, 1}, "", "-1.5", "\u00e4")
	f.Add([]byte{6, 66, 6, 74, 2, 0, 16, 24, 5, 8, 1, 0}, "b", "01", "a")
	f.Fuzz(func(t *testing.T, b []byte, x, y, z string) {
		var l row
		for k := 0; k+1 < len(b) && len(l) < 200; k += 2 {
			texts := []string{"", x, y, z}
			v := api.Value{Kind: int(b[k] % 8), Key: texts[b[k]/8%4], Count: int(int8(b[k+1]) / 8)}
			if v.Kind == api.JsonNumber || v.Kind == api.JsonString {
				v.Text, v.Count = texts[b[k]/32%4], 0
			}
			if v.Kind == 7 {
				v.Kind, v.Count = api.JsonNull, 0
			}
			l = append(l, v)
		}
		rowAsModel(t, l)
		for at := range l {
			if end := json.End(l, at); end >= 0 {
				rowAsModel(t, keyed("", l[at:end]))
			}
		}
	})
}
