package jobj_test

import (
	"math"
	"slices"
	"strconv"
	"strings"
	"testing"

	"onionskin/api"
	"onionskin/jobj"
	"onionskin/json"
	"onionskin/jtext"
)

// prints tells t where a row is not printed as want; the empty text stands for none.
func prints(t *testing.T, l row, want string) {
	t.Helper()
	b, ok := json.Print(l)
	if string(b) != want || ok != (want != "") || ok != (len(l) > 0) {
		t.Errorf("%s, %t, not %s", brief(string(b)), ok, brief(want))
	}
}

// P12.2: what is set, written down.
func TestSet(t *testing.T) {
	const l = `{"a":[1,2],"b":{"a":3},"c":4}`
	for _, c := range [][4]string{
		{"{}", "a", "1", `{"a":1}`}, {"{}", "", "[]", `{"":[]}`}, {`{"a":1}`, "a", "2", `{"a":2}`}, {`{"a":1}`, "b", "2", `{"a":1,"b":2}`}, {`{"b":1}`, "a", "2", `{"b":1,"a":2}`}, {`{"a":1}`, "", "2", `{"a":1,"":2}`},
		// at the first, a middle and the last place, by a shorter, an equally long and a longer row
		{l, "a", "5", `{"a":5,"b":{"a":3},"c":4}`}, {l, "a", "[5,6]", `{"a":[5,6],"b":{"a":3},"c":4}`}, {l, "a", `{"x":[5],"a":6}`, `{"a":{"x":[5],"a":6},"b":{"a":3},"c":4}`},
		{l, "b", "5", `{"a":[1,2],"b":5,"c":4}`}, {l, "b", "[5]", `{"a":[1,2],"b":[5],"c":4}`}, {l, "b", `{"x":[5],"a":6}`, `{"a":[1,2],"b":{"x":[5],"a":6},"c":4}`},
		{l, "c", "null", `{"a":[1,2],"b":{"a":3},"c":null}`}, {l, "c", `"4"`, `{"a":[1,2],"b":{"a":3},"c":"4"}`}, {l, "c", "[[5],6]", `{"a":[1,2],"b":{"a":3},"c":[[5],6]}`},
		// what is not there: behind all others
		{l, "d", "5", `{"a":[1,2],"b":{"a":3},"c":4,"d":5}`}, {l, "", `{"a":[{}]}`, `{"a":[1,2],"b":{"a":3},"c":4,"":{"a":[{}]}}`}, {l, "A", "{}", `{"a":[1,2],"b":{"a":3},"c":4,"A":{}}`},
		// what is there only deeper
		{`{"b":{"a":3}}`, "a", "true", `{"b":{"a":3},"a":true}`}, {`{"b":[{"a":3}]}`, "a", "true", `{"b":[{"a":3}],"a":true}`}, {`{"a":{"a":{"a":1}}}`, "a", "2", `{"a":2}`}, {`{"b":{"a":1},"a":2}`, "a", "3", `{"b":{"a":1},"a":3}`},
		// what is no object
		{"[]", "a", "1", ""}, {"[1]", "a", "1", ""}, {`[{"a":1}]`, "a", "1", ""}, {"null", "a", "1", ""}, {"true", "a", "1", ""}, {"false", "", "1", ""}, {"1", "a", "1", ""}, {`"a"`, "a", "1", ""}, {`"{}"`, "a", "1", ""}, {"[]", "", "{}", ""},
	} {
		prints(t, jobj.Set(of(c[0]), c[1], of(c[2])), c[3])
	}
}

// P12.2: a whole row, each field written down.
func TestSetWrittenDown(t *testing.T) {
	l := row{{Kind: 6, Count: 2}, {Kind: 5, Key: "x", Count: 1}, {Kind: 3, Text: "1"}, {Kind: 4, Key: "y", Text: "s"}}
	v := row{{Kind: 6, Count: 1}, {Kind: 1, Key: "x"}}
	is(t, jobj.Set(l, "x", v), row{{Kind: 6, Count: 2}, {Kind: 6, Key: "x", Count: 1}, {Kind: 1, Key: "x"}, {Kind: 4, Key: "y", Text: "s"}})
	is(t, jobj.Set(l, "y", v), row{{Kind: 6, Count: 2}, {Kind: 5, Key: "x", Count: 1}, {Kind: 3, Text: "1"}, {Kind: 6, Key: "y", Count: 1}, {Kind: 1, Key: "x"}})
	is(t, jobj.Set(l, "z", v), row{{Kind: 6, Count: 3}, {Kind: 5, Key: "x", Count: 1}, {Kind: 3, Text: "1"}, {Kind: 4, Key: "y", Text: "s"}, {Kind: 6, Key: "z", Count: 1}, {Kind: 1, Key: "x"}})
	is(t, jobj.Drop(l, "x"), row{{Kind: 6, Count: 1}, {Kind: 4, Key: "y", Text: "s"}})
	is(t, jobj.Drop(l, "y"), row{{Kind: 6, Count: 1}, {Kind: 5, Key: "x", Count: 1}, {Kind: 3, Text: "1"}})
	is(t, jobj.Drop(l, "z"), l)
}

// P12.2: what is left, written down.
func TestDrop(t *testing.T) {
	const l = `{"a":[1,2],"b":{"a":3},"c":4}`
	for _, c := range [][3]string{
		{l, "a", `{"b":{"a":3},"c":4}`}, {l, "b", `{"a":[1,2],"c":4}`}, {l, "c", `{"a":[1,2],"b":{"a":3}}`}, {l, "d", l}, {l, "", l}, {l, "\xff", l}, {l, "A", l},
		{`{"a":1}`, "a", "{}"}, {`{"a":[[1],{"a":2}]}`, "a", "{}"}, {`{"":1}`, "", "{}"}, {`{"":1}`, "a", `{"":1}`}, {"{}", "a", "{}"}, {"{}", "", "{}"},
		{`{"b":{"a":1}}`, "a", `{"b":{"a":1}}`}, {`{"b":[{"a":1}]}`, "a", `{"b":[{"a":1}]}`}, {`{"b":{"a":1},"a":{"b":2}}`, "a", `{"b":{"a":1}}`}, {`{"b":{"a":1},"a":{"b":2}}`, "b", `{"a":{"b":2}}`},
		{"[]", "a", ""}, {"[1]", "", ""}, {`[{"a":1}]`, "a", ""}, {"null", "a", ""}, {"true", "a", ""}, {"false", "", ""}, {"1", "a", ""}, {`"a"`, "a", ""}, {`"{}"`, "a", ""},
	} {
		prints(t, jobj.Drop(of(c[0]), c[1]), c[2])
	}
	for _, key := range broken {
		l := object(keyed("\ufffd", of("1")), keyed("\ufffd\ufffd", of("2")), keyed("a\ufffd", of("3")), keyed("\ufffda", of("4")))
		is(t, jobj.Drop(l, key), l, key)
		is(t, jobj.Drop(row{{Kind: 6}}, key), row{{Kind: 6}}, key)
		is(t, jobj.Drop(row{{Kind: 5}}, key), nil, key)
	}
}

// P12.2: all mixes of rows and Keys.
func TestSetAndDropAll(t *testing.T) {
	for _, l := range rows() {
		made(t, l, rows()...)
		made(t, object(keyed("b", l), keyed("\u00e4", l), keyed("", l)), of("[1,2]"), l)
	}
}

// P12.2: a Key that is no right UTF-8 is none, also where one that it might count as is there.
func TestSetOfBrokenKeys(t *testing.T) {
	for _, key := range broken {
		for _, l := range []string{"{}", `{"a":1}`, "{\"\ufffd\":1}", "{\"\ufffd\ufffd\":1,\"a\ufffd\":2,\"\ufffda\":3}"} {
			is(t, jobj.Set(of(l), key, of("1")), nil, l, key)
			is(t, jobj.Set(of(l), "b"+key, of("[]")), nil, l, key)
		}
	}
}

// P12.2, P12.3: rows that are not right, handed to each call.
func TestMakeOfWrongRows(t *testing.T) {
	for _, w := range withWrong() {
		for _, key := range []string{"", "a", "b", "d", "\ufffd", "\xff"} {
			is(t, jobj.Drop(w, key), nil, w, key)
			is(t, jobj.Set(w, key, of("1")), nil, w, key)
			is(t, jobj.Set(w, key, w), nil, w, key)
			is(t, jobj.Set(of("{}"), key, w), nil, key, w)
			is(t, jobj.Set(of(`{"b":1,"a":[2],"":3}`), key, w), nil, key, w)
		}
		is(t, jobj.List(w), nil, w)
		is(t, jobj.List(w, w), nil, w)
		is(t, jobj.List(of("[1]"), w), nil, w)
		is(t, jobj.List(w, of("{}")), nil, w)
		is(t, jobj.List(of("1"), w, of("{}")), nil, w)
		is(t, jobj.Object([]string{"a"}, w), nil, w)
		is(t, jobj.Object([]string{""}, w), nil, w)
		is(t, jobj.Object([]string{"a", "b"}, w, of("[]")), nil, w)
		is(t, jobj.Object([]string{"a", "b"}, of("1"), w), nil, w)
		is(t, jobj.Object([]string{"a", "b", "c"}, of("1"), w, of("[1]")), nil, w)
	}
}

// P12.2, P12.3: a row that has a Key of its own is not right, whatever Key it is to have.
func TestRowsWithKeys(t *testing.T) {
	for _, l := range rows() {
		for _, key := range []string{"a", "\u00e4", "\x00", "\xff", "k"} {
			v := keyed(key, l)
			for _, other := range []string{key, "a", "", "new"} {
				is(t, jobj.Set(of("{}"), other, v), nil, v)
				is(t, jobj.Set(of(`{"a":1,"b":2}`), other, v), nil, v)
				is(t, jobj.Set(keyed(key, of(`{"a":1}`)), other, l), nil, v)
				is(t, jobj.Drop(keyed(key, of(`{"a":1}`)), other), nil, v)
				is(t, jobj.Object([]string{other}, v), nil, v)
			}
			is(t, jobj.List(v), nil, v)
			is(t, jobj.List(l, v), nil, v)
		}
	}
	// Cut takes the Key away, so that what a member is can be set.
	l := of(`{"a":[1],"b":2}`)
	prints(t, jobj.Set(l, "b", l[1:3]), "")
	prints(t, jobj.Set(l, "b", jobj.Cut(l, 1)), `{"a":[1],"b":[1]}`)
}

// P12.2, P12.3: rows that are not right each by itself, but were so together.
func TestRightTogether(t *testing.T) {
	is(t, jobj.List(row{{Kind: 5, Count: 1}}, row{{}, {}}), nil)
	is(t, jobj.List(row{{}, {Kind: 5, Count: 1}}, row{{}}, row{}), nil)
	is(t, jobj.List(row{{}, {}}, nil), nil)
	is(t, jobj.List(nil, row{{}, {}}), nil)
	is(t, jobj.List(row{{Kind: 6, Count: 1}}, row{{Key: "a"}, {}}), nil)
	is(t, jobj.Object([]string{"a", "b"}, row{{}, {Key: "b"}}, nil), nil)
	is(t, jobj.Object([]string{"a", "b"}, row{{Kind: 5, Count: 1}}, row{{}, {Key: "b"}}), nil)
	is(t, jobj.Object([]string{"a", "b"}, row{{Kind: 5, Count: 1}, {}, {Key: "b"}}, row{}), nil)
	is(t, jobj.Set(row{{Kind: 6, Count: 2}, {Key: "a"}}, "a", row{{}, {Key: "b"}}), nil)
	is(t, jobj.Set(row{{Kind: 6, Count: 1}, {Key: "a"}, {Key: "b"}}, "a", row{{Kind: 5, Count: 1}}), nil)
	is(t, jobj.Set(row{{Kind: 6, Count: 1}}, "a", row{{}, {Key: "b"}}), nil)
	is(t, jobj.Set(row{{Kind: 6, Count: 1}}, "a", row{{}}), nil)
	is(t, jobj.Set(row{{Kind: 6}, {Key: "a"}}, "b", row{{}}), nil)
	is(t, jobj.Drop(row{{Kind: 6, Count: 2}, {Key: "a"}, {Key: "a"}}, "a"), nil)
	is(t, jobj.Drop(row{{Kind: 6, Count: 2}, {Key: "b"}, {Key: "a", Kind: 9}}, "a"), nil)
	is(t, jobj.Set(row{{Kind: 6, Count: 2}, {Key: "b"}, {Key: "a", Kind: 9}}, "a", row{{}}), nil)
	is(t, jobj.Set(row{{Kind: 6, Count: 1}, {Key: "\xff"}}, "\xff", row{{}}), nil)
}

// P12.2, P12.3: what is made may have values in 49 others, and not in 50.
func TestMakeDeep(t *testing.T) {
	for _, deep := range []func(int, row) row{lists, objects, func(count int, last row) row { return lists(count/2, objects(count-count/2, last)) }} {
		for _, last := range []row{of("1"), of("[]"), of("{}")} {
			fits, not := deep(48, last), deep(49, last)
			for _, l := range []string{"{}", `{"a":1}`, `{"b":1,"a":[2],"c":{}}`} {
				for _, key := range []string{"a", "d"} {
					is(t, jobj.Set(of(l), key, fits), modelSet(of(l), key, fits), l, key)
					is(t, jobj.Set(of(l), key, not), nil, l, key)
					if len(jobj.Set(of(l), key, fits)) == 0 {
						t.Error(l, key)
					}
				}
			}
			is(t, jobj.List(fits), list(fits))
			is(t, jobj.List(of("1"), fits, fits), list(of("1"), fits, fits))
			is(t, jobj.List(not), nil)
			is(t, jobj.List(of("1"), not, fits), nil)
			is(t, jobj.Object([]string{"k"}, fits), object(keyed("k", fits)))
			is(t, jobj.Object([]string{"k", ""}, fits, fits), object(keyed("k", fits), fits))
			is(t, jobj.Object([]string{"k"}, not), nil)
			is(t, jobj.Object([]string{"k", "l"}, fits, not), nil)
			is(t, jobj.Drop(object(keyed("k", fits), keyed("l", of("2"))), "l"), object(keyed("k", fits)))
			is(t, jobj.Drop(object(keyed("k", fits), keyed("l", of("2"))), "k"), of(`{"l":2}`))
			is(t, jobj.Set(object(keyed("k", fits), keyed("l", of("2"))), "k", of("3")), of(`{"k":3,"l":2}`))
			is(t, jobj.Set(object(keyed("k", fits)), "l", of("3")), object(keyed("k", fits), keyed("l", of("3"))))
			is(t, jobj.Cut(list(fits), 1), fits)
		}
	}
}

// P12.2: 5000 values are fine, and one more is not.
func TestSetMany(t *testing.T) {
	full := members(4999)
	is(t, jobj.Set(full, "new", of("1")), nil)
	is(t, jobj.Set(full, "0", of("[]")), modelSet(full, "0", of("[]")))
	is(t, jobj.Set(full, "4998", of("[]")), modelSet(full, "4998", of("[]")))
	is(t, jobj.Set(full, "0", of("[1]")), nil)
	is(t, jobj.Set(full, "4998", of("[1]")), nil)
	is(t, jobj.Set(members(4998), "new", of("[]")), modelSet(members(4998), "new", of("[]")))
	is(t, jobj.Set(members(4998), "new", of("[1]")), nil)
	is(t, jobj.Set(members(4998), "2500", of("[1]")), modelSet(members(4998), "2500", of("[1]")))
	is(t, jobj.Set(members(4998), "2500", of("[1,2]")), nil)
	is(t, jobj.Set(of("{}"), "a", nulls(4998)), object(keyed("a", nulls(4998))))
	is(t, jobj.Set(of("{}"), "a", nulls(4999)), nil)
	is(t, jobj.Set(of(`{"a":1}`), "b", nulls(4997)), object(keyed("a", of("1")), keyed("b", nulls(4997))))
	is(t, jobj.Set(of(`{"a":1}`), "b", nulls(4998)), nil)
	is(t, jobj.Set(of(`{"a":1}`), "a", nulls(4998)), object(keyed("a", nulls(4998))))
	is(t, jobj.Set(of(`{"a":1}`), "a", nulls(4999)), nil)
	wide := object(keyed("a", nulls(2498)), keyed("b", nulls(2499)))
	is(t, jobj.Set(wide, "a", nulls(2498)), wide)
	is(t, jobj.Set(wide, "a", nulls(2499)), nil)
	is(t, jobj.Set(wide, "b", nulls(2500)), nil)
	is(t, jobj.Set(wide, "b", of("1")), object(keyed("a", nulls(2498)), keyed("b", of("1"))))
	is(t, jobj.Set(wide, "c", of("1")), nil)
	is(t, jobj.Drop(wide, "a"), object(keyed("b", nulls(2499))))
	is(t, jobj.Drop(wide, "c"), wide)
	is(t, jobj.Drop(full, "4998"), members(4998))
	is(t, jobj.Drop(full, "0"), modelDrop(full, "0"))
	is(t, jobj.Drop(members(5000), "4999"), nil)
	is(t, jobj.Set(members(5000), "0", of("1")), nil)
}

// P12.3: 5000 values are fine, and one more is not.
func TestGroupMany(t *testing.T) {
	var names []string
	for k := range 6000 {
		names = append(names, strconv.Itoa(k))
	}
	for _, v := range []row{of("null"), of("[]"), of("{}")} {
		vs := slices.Repeat([]row{v}, 6000)
		for _, count := range []int{100, 4998, 4999} {
			is(t, jobj.List(vs[:count]...), list(vs[:count]...), count)
			is(t, jobj.Object(names[:count], vs[:count]...), modelGroup(api.JsonObject, names[:count], vs[:count]), count)
			if len(jobj.Object(names[:count], vs[:count]...)) != count+1 {
				t.Error(count)
			}
		}
		for _, count := range []int{5000, 5001, 6000} {
			is(t, jobj.List(vs[:count]...), nil, count)
			is(t, jobj.Object(names[:count], vs[:count]...), nil, count)
		}
	}
	is(t, jobj.List(nulls(4998)), list(nulls(4998)))
	is(t, jobj.List(nulls(4999)), nil)
	is(t, jobj.List(nulls(4997), of("1")), list(nulls(4997), of("1")))
	is(t, jobj.List(nulls(4998), of("1")), nil)
	is(t, jobj.List(of("1"), nulls(4998)), nil)
	is(t, jobj.List(nulls(2499), nulls(2498)), list(nulls(2499), nulls(2498)))
	is(t, jobj.List(nulls(2499), nulls(2499)), nil)
	is(t, jobj.List(nulls(4999), nulls(4999), nulls(4999)), nil)
	is(t, jobj.Object([]string{"a"}, nulls(4998)), object(keyed("a", nulls(4998))))
	is(t, jobj.Object([]string{"a"}, nulls(4999)), nil)
	is(t, jobj.Object([]string{"a", "b"}, nulls(2499), nulls(2498)), object(keyed("a", nulls(2499)), keyed("b", nulls(2498))))
	is(t, jobj.Object([]string{"a", "b"}, nulls(2499), nulls(2499)), nil)
	is(t, jobj.Object(append(names[:4999:4999], "0"), slices.Repeat([]row{{{}}}, 5000)...), nil)
}

// P12.3: strings, with bytes that are none of a right character.
func TestText(t *testing.T) {
	for s, want := range map[string]string{
		"": "", "a": "a", "abc": "abc", " ": " ", "\"\\/\n\x00\x1f\x7f": "\"\\/\n\x00\x1f\x7f", "\u0080\u00e4\u20ac\ud7ff\ue000\ufffd\ufffe\uffff\U00010000\U0001f600\U0010ffff": "\u0080\u00e4\u20ac\ud7ff\ue000\ufffd\ufffe\uffff\U00010000\U0001f600\U0010ffff",
		"\xff": "\ufffd", "a\xff": "a\ufffd", "\xffa": "\ufffda", "a\xffb": "a\ufffdb", "\xff\xff": "\ufffd\ufffd", "\xff\xff\xff\xff": "\ufffd\ufffd\ufffd\ufffd", "a\x80\x81b": "a\ufffd\ufffdb", "\xffa\xff": "\ufffda\ufffd",
		"\xc3": "\ufffd", "\xc3a": "\ufffda", "\xe2\x82": "\ufffd\ufffd", "\xe2\x82a": "\ufffd\ufffda", "\xf0\x9f\x98": "\ufffd\ufffd\ufffd", "\xc0\x80": "\ufffd\ufffd", "\xc1\xbf": "\ufffd\ufffd", "\xe0\x80\x80": "\ufffd\ufffd\ufffd", "\xed\xa0\x80": "\ufffd\ufffd\ufffd", "\xed\xa0\xbd\xed\xb8\x80": strings.Repeat("\ufffd", 6), "\xf4\x90\x80\x80": strings.Repeat("\ufffd", 4), "\xf8\x88\x80\x80\x80": strings.Repeat("\ufffd", 5),
		"\xc3\xa4\xa4": "\u00e4\ufffd", "\x80\xc3\xa4": "\ufffd\u00e4", "\u20ac\xe2\x82\u20ac": "\u20ac\ufffd\ufffd\u20ac", "\ufffd\xff\ufffd": "\ufffd\ufffd\ufffd", "\xef\xbf\xbd": "\ufffd", "\xef\xbf": "\ufffd\ufffd", `\ud800`: `\ud800`, `"a"`: `"a"`, "null": "null",
	} {
		is(t, jobj.Text(s), row{{Kind: api.JsonString, Text: want}}, s)
	}
	for _, s := range broken {
		for _, s := range []string{s, "a" + s, s + "a", s + s, "\u20ac" + s + "\u20ac" + s, strings.Repeat(s, 1000)} {
			texted(t, s)
		}
	}
}

// texted tells t where a text is not made the string that other hands make of it.
func texted(t *testing.T, s string) {
	t.Helper()
	l := jobj.Text(s)
	is(t, l, row{{Kind: api.JsonString, Text: modelText(s)}}, s)
	if b, ok := json.Print(l); string(b) != jtext.Quote(s) || !ok {
		t.Errorf("%+q is printed as %+q, %t", s, b, ok)
	}
}

// P12.3: all short texts of the bytes that matter, and each character.
func TestTextOfAll(t *testing.T) {
	for x := range 256 {
		texted(t, string([]byte{byte(x)}))
		for y := range 256 {
			texted(t, string([]byte{byte(x), byte(y)}))
		}
	}
	const some = "a\x00\x7f\x80\x8f\x90\x9f\xa0\xbf\xc1\xc2\xdf\xe0\xe1\xed\xef\xf0\xf3\xf4\xf5\xff"
	for k := range len(some) * len(some) * len(some) * len(some) {
		b := make([]byte, 4)
		for at := range b {
			b[at] = some[k%len(some)]
			k /= len(some)
		}
		l := jobj.Text(string(b))
		if want := modelText(string(b)); len(l) != 1 || l[0] != (api.Value{Kind: api.JsonString, Text: want}) {
			t.Errorf("%+q: %+v, not %+q", b, l, want)
		}
	}
	var all strings.Builder
	for r := range rune(0x110000) {
		if r < 0xd800 || r >= 0xe000 {
			all.WriteRune(r)
		}
	}
	is(t, jobj.Text(all.String()), row{{Kind: 4, Text: all.String()}})
	is(t, jobj.Text(strings.Repeat("\xff", 1<<20)), row{{Kind: 4, Text: strings.Repeat("\ufffd", 1<<20)}})
}

// P12.3: numbers.
func TestInt(t *testing.T) {
	for n, want := range map[int]string{0: "0", 1: "1", -1: "-1", 9: "9", 10: "10", -10: "-10", 1000: "1000", -305: "-305", 1 << 32: "4294967296", 1 << 62: "4611686018427387904", 1<<53 + 1: "9007199254740993", math.MaxInt64: "9223372036854775807", math.MaxInt64 - 1: "9223372036854775806", math.MinInt64: "-9223372036854775808", math.MinInt64 + 1: "-9223372036854775807"} {
		is(t, jobj.Int(n), row{{Kind: api.JsonNumber, Text: want}}, n)
		prints(t, jobj.Int(n), want)
	}
	for k := range 64 {
		for _, n := range []int{1 << k, 1<<k - 1, 1<<k + 1, -1 << k, -1<<k + 1, -1<<k - 1, int(math.Pow10(k % 19)), -int(math.Pow10(k%19)) + 1} {
			l := jobj.Int(n)
			if len(l) != 1 || !json.Right(l) || l[0].Kind != api.JsonNumber {
				t.Fatalf("%d: %v", n, l)
			}
			if got, ok := jtext.Int(l[0].Text); got != n || !ok {
				t.Errorf("%d: %v", n, l)
			}
		}
	}
}

// P12.3: lists and objects, written down.
func TestGroups(t *testing.T) {
	is(t, jobj.List(), row{{Kind: 5}})
	is(t, jobj.List([]row{}...), row{{Kind: 5}})
	is(t, jobj.Object(nil), row{{Kind: 6}})
	is(t, jobj.Object([]string{}), row{{Kind: 6}})
	is(t, jobj.Object([]string{}, []row{}...), row{{Kind: 6}})
	is(t, jobj.List(row{{}}), row{{Kind: 5, Count: 1}, {}})
	is(t, jobj.List(jobj.List()), row{{Kind: 5, Count: 1}, {Kind: 5}})
	is(t, jobj.List(row{{Kind: 5, Count: 1}, {Kind: 1}}, row{{Kind: 3, Text: "1"}}, row{{Kind: 6, Count: 1}, {Key: "k"}}), row{{Kind: 5, Count: 3}, {Kind: 5, Count: 1}, {Kind: 1}, {Kind: 3, Text: "1"}, {Kind: 6, Count: 1}, {Key: "k"}})
	is(t, jobj.Object([]string{"k"}, row{{}}), row{{Kind: 6, Count: 1}, {Key: "k"}})
	is(t, jobj.Object([]string{""}, row{{Kind: 6}}), row{{Kind: 6, Count: 1}, {Kind: 6}})
	is(t, jobj.Object([]string{"b", "", "a"}, row{{Kind: 5, Count: 1}, {Kind: 1}}, row{{Kind: 3, Text: "1"}}, row{{Kind: 6, Count: 1}, {Key: "k"}}), row{{Kind: 6, Count: 3}, {Kind: 5, Key: "b", Count: 1}, {Kind: 1}, {Kind: 3, Text: "1"}, {Kind: 6, Key: "a", Count: 1}, {Key: "k"}})
	prints(t, jobj.Object([]string{"z", "\u00e4\n", "a"}, jobj.Text("\xff\""), jobj.List(jobj.Int(-1), jobj.Object(nil)), jobj.Object([]string{"z"}, jobj.List())), "{\"z\":\"\ufffd\\\"\",\"\u00e4\\n\":[-1,{}],\"a\":{\"z\":[]}}")
}

// P12.3: all mixes of rows.
func TestGroupsOfAll(t *testing.T) {
	for _, a := range rows() {
		grouped(t, []string{"a"}, a)
		for _, b := range rows() {
			grouped(t, []string{"a", ""}, a, b)
			grouped(t, []string{"\U0001f600", "\u20ac"}, a, b)
			grouped(t, []string{"k", "k"}, a, b)
			grouped(t, []string{"c", "b", "a"}, a, b, a)
			grouped(t, []string{"a", "b", "\xff"}, b, a, of("1"))
		}
	}
	grouped(t, []string{"0", "1", "2", "3", "4", "5", "6", "7", "8", "9"}, rows()[:10]...)
}

// P12.3: Keys twice, Keys that are no right UTF-8, and more or fewer keys than rows.
func TestObjectsOfWrongKeys(t *testing.T) {
	one, two := of("1"), of(`["a"]`)
	for _, key := range keys {
		is(t, jobj.Object([]string{key, key}, one, two), nil, key)
		is(t, jobj.Object([]string{key, "x", key}, one, two, one), nil, key)
		is(t, jobj.Object([]string{"x", key, key}, one, two, one), nil, key)
		is(t, jobj.Object([]string{key, key, "x"}, one, two, one), nil, key)
		is(t, jobj.Object([]string{key, key + "x"}, one, two), object(keyed(key, one), keyed(key+"x", two)), key)
		is(t, jobj.Object([]string{key}, of(`{"a":1,"k":2,"":3}`)), object(keyed(key, of(`{"a":1,"k":2,"":3}`))), key)
	}
	for _, key := range broken {
		is(t, jobj.Object([]string{key}, one), nil, key)
		is(t, jobj.Object([]string{"a", key}, one, two), nil, key)
		is(t, jobj.Object([]string{key, "a"}, one, two), nil, key)
		is(t, jobj.Object([]string{"a", key, "\ufffd"}, one, two, one), nil, key)
		is(t, jobj.Object([]string{key}), nil, key)
	}
	names := []string{"a", "b", "c", "d", "e"}
	vs := []row{one, two, one, two, one}
	for k := range names {
		for number := range vs {
			grouped(t, names[:k], vs[:number]...)
			if got := jobj.Object(names[:k], vs[:number]...); len(got) > 0 != (k == number) {
				t.Errorf("%d keys, %d rows: %v", k, number, got)
			}
		}
	}
	is(t, jobj.Object(nil, one), nil)
	is(t, jobj.Object([]string{""}), nil)
	is(t, jobj.Object([]string{"a", ""}, one), nil)
	is(t, jobj.Object([]string{"a", "a"}, one), nil)
	is(t, jobj.Object(make([]string, 1<<20)), nil)
	is(t, jobj.Object(nil, make([]row, 1<<20)...), nil)
	is(t, jobj.List(make([]row, 1<<20)...), nil)
	is(t, jobj.List(slices.Repeat([]row{nulls(4000)}, 1<<17)...), nil)
}

// P12.5: what is set is got, what is dropped is not, and all else is as it was.
func TestSetIsGot(t *testing.T) {
	for _, l := range rows() {
		for _, key := range keys {
			for _, v := range rows() {
				set := jobj.Set(l, key, v)
				if l[0].Kind != api.JsonObject {
					is(t, set, nil, l, key)
					continue
				}
				is(t, jobj.Cut(set, jobj.Get(set, 0, key)), v, l, key)
				is(t, jobj.Set(set, key, v), set, l, key)
				gets(t, jobj.Drop(set, key), 0, key, -1)
				is(t, jobj.Drop(set, key), jobj.Drop(l, key), l, key)
				othersStay(t, l, set, key)
				othersStay(t, l, jobj.Drop(set, key), key)
			}
		}
	}
}

// othersStay tells t where of a Key but that one there is another value in one object than in the other.
func othersStay(t *testing.T, l, other row, key string) {
	t.Helper()
	var was, now []string
	for k := range l[0].Count {
		was = append(was, l[jobj.Item(l, 0, k)].Key)
	}
	for k := range other[0].Count {
		now = append(now, other[jobj.Item(other, 0, k)].Key)
	}
	without := func(l []string) []string {
		return slices.DeleteFunc(slices.Clone(l), func(s string) bool { return s == key })
	}
	if !slices.Equal(without(was), without(now)) {
		t.Errorf("%q, %q", was, now)
	}
	for _, name := range without(was) {
		is(t, jobj.Cut(other, jobj.Get(other, 0, name)), jobj.Cut(l, jobj.Get(l, 0, name)), l, other, key)
	}
}

// called is a call that makes a row of rows and keys.
type called struct {
	name string
	vs   []row
	keys []string
	call func(vs []row, keys []string) row
}

// calls are calls of each kind, some of which answer none.
func calls() []called {
	cut := func(at int) func([]row, []string) row {
		return func(vs []row, _ []string) row { return jobj.Cut(vs[0], at) }
	}
	set := func(vs []row, keys []string) row { return jobj.Set(vs[0], keys[0], vs[1]) }
	drop := func(vs []row, keys []string) row { return jobj.Drop(vs[0], keys[0]) }
	lay := func(vs []row, _ []string) row { return jobj.List(vs...) }
	group := func(vs []row, keys []string) row { return jobj.Object(keys, vs...) }
	l := of(`{"a":[1,{"x":"y"}],"b":{"c":null},"d":4}`)
	var out []called
	for at := -1; at <= len(l); at++ {
		out = append(out, called{"Cut", []row{l}, nil, cut(at)})
	}
	for _, key := range []string{"a", "b", "d", "e", "", "\xff"} {
		for _, v := range []string{"1", "[1,2]", `{"a":[],"b":{"c":[1,2,3]}}`} {
			out = append(out, called{"Set", []row{l, of(v)}, []string{key}, set})
			out = append(out, called{"Set", []row{of("{}"), of(v)}, []string{key}, set})
		}
		out = append(out, called{"Set", []row{l, {{}, {}}}, []string{key}, set})
		out = append(out, called{"Drop", []row{l}, []string{key}, drop})
		out = append(out, called{"Drop", []row{of("{}")}, []string{key}, drop})
		out = append(out, called{"Drop", []row{{{Kind: 6, Count: 2}}}, []string{key}, drop})
		out = append(out, called{"Drop", []row{of("[1]")}, []string{key}, drop})
		out = append(out, called{"Object", []row{l, of("[[1],2]"), of("3")}, []string{"k", key, "l"}, group})
	}
	for _, vs := range [][]row{{}, {l}, {l, of("1")}, {of("[]"), l, of(`"s"`)}, {l, {{Key: "k"}}, l}} {
		out = append(out, called{"List", vs, nil, lay})
		out = append(out, called{"Object", vs, []string{"a", "b", "c"}[:len(vs)], group})
		out = append(out, called{"Object", vs, []string{"a", "a", "a", "a"}, group})
	}
	for _, s := range []string{"", "a", "\xff"} {
		out = append(out, called{"Text", nil, []string{s}, func(_ []row, keys []string) row { return jobj.Text(keys[0]) }})
	}
	return append(out, called{"Int", nil, nil, func([]row, []string) row { return jobj.Int(-7) }})
}

// mark is what no call answers.
var mark = api.Value{Kind: 9, Key: "z", Text: "z", Count: 9}

// scribble makes all of a row a mark, its spare room too.
func scribble(l row) {
	for k := range l[:cap(l)] {
		l[:cap(l)][k] = mark
	}
}

// roomy is a copy of all that is handed in, with room behind each of it that is full, and the whole of that.
func (c called) roomy() (called, []row, []string) {
	var vs []row
	for _, v := range c.vs {
		whole := slices.Concat(v, row{mark, {Key: "behind"}, mark, mark, mark, mark, mark, mark})
		vs = append(vs, whole)
		c.vs = slices.Clone(c.vs)
		c.vs[len(vs)-1] = whole[:len(v)]
	}
	more := slices.Concat(c.vs, []row{{mark}, of("1"), nil, {mark}})
	c.vs = more[:len(c.vs)]
	names := slices.Concat(c.keys, []string{"z", "behind", "z", "z"})
	c.keys = names[:len(c.keys)]
	return c, append(vs, more[len(c.vs):]...), names
}

// P12.4: what is handed in is not changed, nor looked at behind its end.
func TestHandedInIsNotChanged(t *testing.T) {
	for _, c := range calls() {
		want := c.call(c.vs, c.keys)
		roomy, wholes, names := c.roomy()
		var kept []row
		for _, whole := range wholes {
			kept = append(kept, slices.Clone(whole))
		}
		keptNames := slices.Clone(names)
		got := roomy.call(roomy.vs, roomy.keys)
		is(t, got, want, c.name, c.keys)
		scribble(got)
		for k := range wholes {
			if !slices.Equal(wholes[k], kept[k]) {
				t.Errorf("%s %q: what was handed in is %s, not %s", c.name, c.keys, brief(wholes[k]), brief(kept[k]))
			}
		}
		if !slices.Equal(names, keptNames) {
			t.Errorf("%s %q: %q", c.name, keptNames, names)
		}
		for k, v := range roomy.vs[:cap(roomy.vs)][:len(roomy.vs)+4] {
			if k < len(c.vs) && !slices.Equal(v, c.vs[k]) || k >= len(c.vs) && !slices.Equal(v, []row{{mark}, of("1"), nil, {mark}}[k-len(c.vs)]) {
				t.Errorf("%s %q: the row %d is %s", c.name, c.keys, k, brief(v))
			}
		}
	}
}

// P12.4: what is answered is the caller's own, its spare room too.
func TestAnswersAreApart(t *testing.T) {
	for _, c := range calls() {
		want := slices.Clone(c.call(c.vs, c.keys))
		roomy, wholes, names := c.roomy()
		got := roomy.call(roomy.vs, roomy.keys)
		other := roomy.call(roomy.vs, roomy.keys)
		for _, whole := range wholes {
			scribble(whole)
		}
		for k := range names {
			names[k] = "z"
		}
		for k := range roomy.vs {
			roomy.vs[k] = row{mark}
		}
		is(t, got, want, c.name, "what was handed in is shared")
		scribble(got)
		is(t, other, want, c.name, "two answers are shared")
		is(t, c.call(c.vs, c.keys), want, c.name, "what is kept is shared")
	}
}

// P12.4: one row handed in several times, and an object set in itself.
func TestSameRowTwice(t *testing.T) {
	l := of(`{"a":[1],"b":2}`)
	kept := slices.Clone(l)
	is(t, jobj.List(l, l, l), list(kept, kept, kept))
	is(t, jobj.Object([]string{"x", "y"}, l, l), object(keyed("x", kept), keyed("y", kept)))
	prints(t, jobj.Set(l, "a", l), `{"a":{"a":[1],"b":2},"b":2}`)
	prints(t, jobj.Set(l, "c", l), `{"a":[1],"b":2,"c":{"a":[1],"b":2}}`)
	prints(t, jobj.Set(l, "b", l[2:3]), `{"a":[1],"b":1}`)
	both := slices.Concat(l, l)
	prints(t, jobj.Set(both[:4], "b", both[4:]), `{"a":[1],"b":{"a":[1],"b":2}}`)
	prints(t, jobj.List(both[:4], both[4:]), `[{"a":[1],"b":2},{"a":[1],"b":2}]`)
	if !slices.Equal(l, kept) || !slices.Equal(both, slices.Concat(kept, kept)) {
		t.Error(l, both)
	}
}

// W2: what was asked before does not matter.
func TestTwiceTheSame(t *testing.T) {
	wrong := wrongRows()[:20]
	for range 2 {
		for _, c := range calls() {
			want := slices.Clone(c.call(c.vs, c.keys))
			for _, w := range wrong {
				jobj.Set(c.call(c.vs, c.keys), "a", w)
				jobj.List(w, w)
			}
			is(t, c.call(c.vs, c.keys), want, c.name)
		}
	}
}

// W1: rows that are very long, and very deep.
func TestMuch(t *testing.T) {
	const much = 1 << 20
	deep := make(row, much)
	for k := range deep {
		deep[k] = api.Value{Kind: api.JsonList, Count: 1}
	}
	deep[much-1].Count = 0
	wide := append(row{{Kind: api.JsonObject, Count: much}}, make(row, much)...)
	for _, l := range []row{deep, wide, deep[:much-1], deep[much-51:]} {
		notLooked(t, l, 0)
		notLooked(t, l, len(l)-1)
		is(t, jobj.Set(l, "", of("1")), nil)
		is(t, jobj.Set(of(`{"":1}`), "", l), nil)
		is(t, jobj.Drop(l, ""), nil)
		is(t, jobj.List(of("1"), l), nil)
		is(t, jobj.Object([]string{""}, l), nil)
	}
	long := strings.Repeat("\u00e4", much)
	is(t, jobj.Set(of("{}"), long, jobj.Text(long)), row{{Kind: 6, Count: 1}, {Kind: 4, Key: long, Text: long}})
	is(t, jobj.Set(of("{}"), long+"\xff", of("1")), nil)
	is(t, jobj.Text(long+"\xff"), row{{Kind: 4, Text: long + "\ufffd"}})
}

// P12.1 to P12.3, W1: of any rows all is told and made that other hands tell and make.
func FuzzCalls(f *testing.F) {
	f.Add([]byte{}, []byte{}, "a", "1", "\xff")
	f.Add([]byte{6, 16, 14, 8, 0, 0, 27, 0}, []byte{5, 8, 3, 0}, "", "-1.5", "\u00e4")
	f.Add([]byte{6, 24, 14, 16, 8, 0, 16, 0, 24, 0, 16, 0}, []byte{6, 8, 12, 0}, "b", "01", "a")
	f.Fuzz(func(t *testing.T, a, b []byte, x, y, z string) {
		fuzzed := func(b []byte) row {
			var l row
			for k := 0; k+1 < len(b) && len(l) < 60; k += 2 {
				texts := []string{"", x, y, z}
				v := api.Value{Kind: int(b[k] % 8), Key: texts[b[k]/8%4], Count: int(int8(b[k+1]) / 8)}
				if v.Kind == api.JsonNumber || v.Kind == api.JsonString {
					v.Text, v.Count = texts[b[k]/32%4], 0
				}
				if v.Kind == 7 {
					v.Kind, v.Count = api.JsonNull, 0
				}
				l = append(l, v)
			}
			return l
		}
		l, v := fuzzed(a), fuzzed(b)
		for at := -1; at <= len(l); at++ {
			for _, key := range []string{x, y, z, ""} {
				gets(t, l, at, key, modelGet(l, at, key))
			}
			for k := -1; k <= 4; k++ {
				items(t, l, at, k, modelItem(l, at, k))
			}
			is(t, jobj.Cut(l, at), modelCut(l, at), l, at)
		}
		for _, key := range []string{x, y, z, ""} {
			is(t, jobj.Drop(l, key), modelDrop(l, key), l, key)
			is(t, jobj.Set(l, key, v), modelSet(l, key, v), l, key, v)
			texted(t, key)
		}
		grouped(t, []string{x, y, z}, l, v, l)
		grouped(t, []string{x, y}, l, v)
	})
}
