package jobj_test

import (
	"fmt"
	"slices"
	"strconv"
	"strings"
	"testing"
	"unicode/utf8"

	"onionskin/api"
	"onionskin/jobj"
	"onionskin/json"
)

// A row is short for what the calls take and answer.
type row = []api.Value

// broken are texts that are no right UTF-8.
var broken = []string{"\x80", "\xbf", "\xff", "\xc3", "\xc0\x80", "\xe2\x82", "\xe0\x80\x80", "\xed\xa0\x80", "\xed\xbf\xbf", "\xf0\x9f\x98", "\xf4\x90\x80\x80", "\xf8\x88\x80\x80\x80", "a\xff", "\xffa", "\u00e4\x80", "\ufffd\xef\xbf"}

// keys are Keys that may be: of no bytes, of characters of one to four, and such that begin others.
var keys = []string{"", "a", "b", "ab", "A", " ", "\x00", "\"\\", "\u00e4", "\u20ac", "\U0001f600", "a\u00e4\u20ac\U0001f600", "\ufffd", "k", "z"}

// far are numbers that are far from any place.
var far = []int{api.MinInt, api.MinInt + 1, -1 << 62, -1 << 32, -1 << 31, -1000, -2, -1, 5001, 1 << 31, 1 << 32, 1<<32 + 1, 1 << 62, api.MaxInt - 1, api.MaxInt}

// of is the row of which s is JSON.
func of(s string) row {
	l, err := json.Parse([]byte(s))
	if err != api.OK {
		panic(s)
	}
	return l
}

// texts are JSON of values of each kind, without others, and with such at each depth.
func texts() []string {
	return []string{
		"null", "true", "false", "0", "-12.50e+3", `""`, `"a"`, "\"\u00e4\u20ac\U0001f600\"", "[]", "{}",
		"[null]", "[[]]", "[{}]", "[1,2]", `["a",[],"b",{},null]`, "[[1,[2,[3]],4],[],[[]]]", `[{"a":[{"b":[1,{"c":[]}]}]},{"a":2}]`,
		`{"a":null}`, `{"":true}`, "{\"\u00e4\":1}", "{\"\u20ac\":\"\"}", "{\"\U0001f600\":[]}", `{"a":{}}`, `{"a":1,"b":2}`, `{"b":1,"a":2}`, `{"a":[1,2],"b":{"a":3,"c":4},"c":5}`,
		`{"a":{"b":{"c":{"d":[]}}},"b":{"a":{"c":1}},"c":{"a":2}}`, `{"k":{"k":{"k":"k"}},"":{"":{"":[]}}}`, `{"z":[{"b":0},{"b":1}],"a":[[[]]],"b":"z"}`,
		"{\"\u00e4\":[null],\"\u20ac\":{\"\U0001f600\":1,\"\u00e4\":2},\"\U0001f600\":true,\"a\u00e4\u20ac\U0001f600\":false,\"\ufffd\":0,\"\":[[],{}]}",
		`{"a":1,"b":"2","ab":true,"A":false,"aa":null,"":[],"\u0000":{}}`,
	}
}

// rows are the rows of the texts.
func rows() []row {
	var l []row
	for _, s := range texts() {
		l = append(l, of(s))
	}
	return l
}

// list is the row of a list of rows, right or not.
func list(l ...row) row {
	return append(row{{Kind: api.JsonList, Count: len(l)}}, slices.Concat(l...)...)
}

// object is the row of an object of rows that have their Keys, right or not.
func object(l ...row) row {
	return append(row{{Kind: api.JsonObject, Count: len(l)}}, slices.Concat(l...)...)
}

// keyed is a row that has that Key.
func keyed(key string, l row) row {
	l = slices.Clone(l)
	l[0].Key = key
	return l
}

// nulls is the row of a list that has so many of null.
func nulls(count int) row { return list(slices.Repeat([]row{{{}}}, count)...) }

// members is an object of so many numbers, with numbers as Keys.
func members(count int) row {
	var l []row
	for k := range count {
		l = append(l, keyed(strconv.Itoa(k), of(strconv.Itoa(k))))
	}
	return object(l...)
}

// lists is so many lists in one another, and in the last one a row.
func lists(count int, last row) row {
	return slices.Concat(slices.Repeat(row{{Kind: api.JsonList, Count: 1}}, count), last)
}

// objects is so many objects in one another, each with the Key a, and in the last one a row.
func objects(count int, last row) row {
	for range count {
		last = object(keyed("a", last))
	}
	return last
}

// wrongRows are rows that are not right, in each of the ways in which one can be so.
func wrongRows() []row {
	l := []row{
		nil, {}, make(row, 0, 5), // no row at all
		{{}, {}}, {{Kind: 5}, {}}, {{Kind: 6}, {Key: "a"}}, {{Kind: 6, Count: 1}, {Key: "a"}, {Key: "b"}}, // more than one
		{{Kind: 5, Count: 1}}, {{Kind: 6, Count: 1}}, {{Kind: 5, Count: 2}, {}}, {{Kind: 6, Count: 2}, {Key: "a"}}, {{Kind: 5, Count: 1}, {Kind: 5, Count: 1}}, // not all there
		{{Kind: 5, Count: -1}}, {{Kind: 6, Count: -1}}, {{Kind: 5, Count: api.MinInt}, {}}, {{Kind: 6, Count: api.MaxInt}, {Key: "a"}}, {{Kind: 5, Count: 2}, {Kind: 5, Count: -1}, {}}, // Counts
		{{Kind: 5, Count: api.MaxInt}, {Kind: 5, Count: api.MaxInt}, {Kind: 5, Count: 3}, {}, {}}, {{Kind: 5, Count: 3}, {Kind: 5, Count: -1}},
		{{Key: "a"}}, {{Key: "\xff"}}, {{Kind: 5, Key: "a"}}, {{Kind: 6, Key: "a"}}, {{Kind: 5, Count: 1}, {Key: "a"}}, {{Kind: 6, Key: "a", Count: 1}, {Key: "a"}}, // Keys where none may be
		{{Kind: 6, Count: 2}, {Key: "a"}, {Key: "a"}}, {{Kind: 6, Count: 2}, {}, {}}, {{Kind: 6, Count: 3}, {Key: "a", Kind: 1}, {Key: "b"}, {Key: "a", Kind: 2}}, {{Kind: 6, Count: 2}, {Key: "a", Kind: 5, Count: 1}, {}, {Key: "a"}}, // Keys twice
		lists(50, row{{}}), lists(50, row{{Kind: 6}}), objects(50, row{{}}), lists(25, objects(25, row{{}})), lists(4999, row{{}}), // too deep
		nulls(5000), members(5000), list(nulls(2499), nulls(2499)), object(keyed("a", members(4999))), // too many
		{{Kind: 3}}, {{Kind: 3, Text: "01"}}, {{Kind: 3, Text: "+1"}}, {{Kind: 3, Text: "1 "}}, {{Kind: 3, Text: "1."}}, {{Kind: 3, Text: "-"}}, {{Kind: 3, Text: "NaN"}}, {{Kind: 3, Text: "1e"}}, // no number's texts
	}
	for _, s := range broken {
		l = append(l, row{{Kind: 4, Text: s}}, row{{Kind: 6, Count: 1}, {Key: s}}, row{{Kind: 6, Count: 2}, {Key: "a"}, {Key: s}}, row{{Kind: 6, Count: 2}, {Key: "\ufffd"}, {Key: s}})
	}
	for _, kind := range []int{-1, 7, 8, 256, 1<<32 + 5, 1<<32 + 6, api.MaxInt, api.MinInt} {
		l = append(l, row{{Kind: kind}}, row{{Kind: kind, Count: 1}, {Key: "a"}})
	}
	for _, kind := range []int{0, 1, 2, 5, 6} {
		l = append(l, row{{Kind: kind, Text: "a"}})
	}
	for kind := range 5 {
		text := map[int]string{3: "1"}[kind]
		l = append(l, row{{Kind: kind, Text: text, Count: 1}}, row{{Kind: kind, Text: text, Count: 1}, {}}, row{{Kind: kind, Text: text, Count: -1}})
	}
	return l
}

// withWrong are the rows that are not right, and such that have them deeper in.
func withWrong() []row {
	var l []row
	for _, w := range wrongRows() {
		l = append(l, w)
		if len(w) > 0 {
			l = append(l, list(of("[1]"), w, of("2")), object(keyed("b", of(`{"a":1}`)), keyed("a", w), keyed("c", of("[]"))))
		}
	}
	// A row with a Key of its own gets another one as a member, and is right then.
	return slices.DeleteFunc(l, json.Right)
}

// parents is of each place of a right row the place of the value that has what stands there, -1 of the first.
func parents(l row) []int {
	var out, open, left []int
	for at, v := range l {
		for len(left) > 0 && left[len(left)-1] == 0 {
			open, left = open[:len(open)-1], left[:len(left)-1]
		}
		if len(left) == 0 {
			out = append(out, -1)
		} else {
			out = append(out, open[len(open)-1])
			left[len(left)-1]--
		}
		open, left = append(open, at), append(left, v.Count)
	}
	return out
}

// modelHas is the places of what the value at that place has.
func modelHas(l row, at int) []int {
	var out []int
	for place, parent := range parents(l) {
		if parent == at && at >= 0 {
			out = append(out, place)
		}
	}
	return out
}

// modelGet is Get, told by other hands.
func modelGet(l row, at int, key string) int {
	if json.Right(l) {
		for _, place := range modelHas(l, at) {
			if l[at].Kind == api.JsonObject && l[place].Key == key {
				return place
			}
		}
	}
	return -1
}

// modelItem is Item, told by other hands.
func modelItem(l row, at, k int) int {
	if json.Right(l) {
		for number, place := range modelHas(l, at) {
			if number == k {
				return place
			}
		}
	}
	return -1
}

// modelCut is Cut, told by other hands: what has the place above it.
func modelCut(l row, at int) row {
	if !json.Right(l) {
		return nil
	}
	above := parents(l)
	var out row
	for place, v := range l {
		up := place
		for up > at {
			up = above[up]
		}
		if up == at && at >= 0 {
			out = append(out, v)
		}
	}
	if len(out) > 0 {
		out[0].Key = ""
	}
	return out
}

// node is a value with all that it has.
type node struct {
	value api.Value
	has   []node
}

// grow is the node of the row with which l begins, and what is behind it.
func grow(l row) (node, row) {
	n := node{value: l[0]}
	l = l[1:]
	for range n.value.Count {
		var has node
		has, l = grow(l)
		n.has = append(n.has, has)
	}
	return n, l
}

// size is how many values a node comes to, and deep how many of them stand in one another at most.
func (n node) size() (size, deep int) {
	for _, has := range n.has {
		s, d := has.size()
		size, deep = size+s, max(deep, d)
	}
	return size + 1, deep + 1
}

// flat is the row of a node whose values are right each by itself; none, if it were not right.
func (n node) flat() row {
	size, deep := n.size()
	if size > 5000 || deep > 50 || !n.keysRight() {
		return nil
	}
	return n.lay(nil)
}

// keysRight is whether the Keys of a node may be.
func (n node) keysRight() bool {
	var seen []string
	for _, has := range n.has {
		key := has.value.Key
		if n.value.Kind == api.JsonObject && (slices.Contains(seen, key) || !utf8.ValidString(key)) || n.value.Kind != api.JsonObject && key != "" || !has.keysRight() {
			return false
		}
		seen = append(seen, key)
	}
	return true
}

// lay lays the row of a node behind l.
func (n node) lay(l row) row {
	n.value.Count = len(n.has)
	l = append(l, n.value)
	for _, has := range n.has {
		l = has.lay(l)
	}
	return l
}

// modelSet is Set, told by other hands.
func modelSet(l row, key string, v row) row {
	if !json.Right(l) || !json.Right(v) || l[0].Kind != api.JsonObject || !utf8.ValidString(key) {
		return nil
	}
	n, _ := grow(l)
	set, _ := grow(v)
	set.value.Key = key
	for k := range n.has {
		if n.has[k].value.Key == key {
			n.has[k] = set
			return n.flat()
		}
	}
	n.has = append(n.has, set)
	return n.flat()
}

// modelDrop is Drop, told by other hands.
func modelDrop(l row, key string) row {
	if !json.Right(l) || l[0].Kind != api.JsonObject {
		return nil
	}
	n, _ := grow(l)
	n.has = slices.DeleteFunc(n.has, func(has node) bool { return has.value.Key == key })
	return n.flat()
}

// modelGroup is List, or Object with its keys, told by other hands.
func modelGroup(kind int, keys []string, vs []row) row {
	n := node{value: api.Value{Kind: kind}}
	for k, v := range vs {
		if !json.Right(v) || len(keys) != len(vs) {
			return nil
		}
		has, _ := grow(v)
		has.value.Key = keys[k]
		n.has = append(n.has, has)
	}
	if len(keys) != len(vs) {
		return nil
	}
	return n.flat()
}

// modelText is the text of Text(s), told by other hands.
func modelText(s string) string {
	var parts []string
	for s != "" {
		r, size := utf8.DecodeRuneInString(s)
		if r == utf8.RuneError && size == 1 {
			parts = append(parts, "\xef\xbf\xbd")
		} else {
			parts = append(parts, s[:size])
		}
		s = s[size:]
	}
	return strings.Join(parts, "")
}

// brief is what tells of anything; where it is long, of its beginning and its end.
func brief(x any) string {
	s := fmt.Sprintf("%+q", fmt.Sprintf("%+v", x))
	if len(s) > 400 {
		s = s[:200] + " .. " + s[len(s)-200:]
	}
	return s
}

// gets tells t where what is got is not at that place.
func gets(t *testing.T, l row, at int, key string, want int) {
	t.Helper()
	if got := jobj.Get(l, at, key); got != want {
		t.Errorf("Get of %+q at %d of %s: %d, not %d", key, at, brief(l), got, want)
	}
}

// items tells t where the k-th value is not at that place.
func items(t *testing.T, l row, at, k, want int) {
	t.Helper()
	if got := jobj.Item(l, at, k); got != want {
		t.Errorf("Item %d at %d of %s: %d, not %d", k, at, brief(l), got, want)
	}
}

// is tells t where a row is not as wanted; what was done tells of how it was made.
func is(t *testing.T, got, want row, done ...any) {
	t.Helper()
	if !slices.Equal(got, want) || len(got) > 0 && !json.Right(got) {
		t.Errorf("%s: %s, not %s", brief(done), brief(got), brief(want))
	}
}

// looked tells t where of a row not all is told that other hands tell, at each place and beside it.
func looked(t *testing.T, l row) {
	t.Helper()
	for _, at := range append(far, len(l), len(l)+1) {
		for _, key := range keys {
			gets(t, l, at, key, -1)
		}
		for _, k := range []int{-1, 0, 1, api.MaxInt} {
			items(t, l, at, k, -1)
		}
		is(t, jobj.Cut(l, at), nil, l, at)
	}
	for at := range l {
		for _, key := range slices.Concat(keys, broken) {
			gets(t, l, at, key, modelGet(l, at, key))
		}
		for k := -1; k <= len(l)+1; k++ {
			items(t, l, at, k, modelItem(l, at, k))
		}
		for _, k := range far {
			items(t, l, at, k, -1)
		}
		is(t, jobj.Cut(l, at), modelCut(l, at), l, at)
	}
}

// made tells t where of a row not all is made that other hands make, with each of these as what is set.
func made(t *testing.T, l row, vs ...row) {
	t.Helper()
	for _, key := range slices.Concat(keys, broken) {
		is(t, jobj.Drop(l, key), modelDrop(l, key), l, key)
		for _, v := range vs {
			is(t, jobj.Set(l, key, v), modelSet(l, key, v), l, key, v)
		}
	}
}

// grouped tells t where of rows and keys not the list and the object are made that other hands make.
func grouped(t *testing.T, keys []string, vs ...row) {
	t.Helper()
	is(t, jobj.List(vs...), modelGroup(api.JsonList, make([]string, len(vs)), vs), vs)
	is(t, jobj.Object(keys, vs...), modelGroup(api.JsonObject, keys, vs), keys, vs)
}
