package jobj_test

import (
	"slices"
	"strconv"
	"strings"
	"testing"

	"onionskin/api"
	"onionskin/jobj"
	"onionskin/json"
)

// P12.1: places, written down.
func TestGet(t *testing.T) {
	l := row{{Kind: 6, Count: 3}, {Kind: 5, Key: "b", Count: 2}, {Kind: 6, Count: 1}, {Key: "x"}, {Kind: 6}, {Kind: 6, Key: "a", Count: 2}, {Kind: 3, Key: "b", Text: "1"}, {Kind: 4, Key: "", Text: "a"}, {Kind: 1, Key: "c"}}
	for at, want := range []map[string]int{{"b": 1, "a": 5, "c": 8}, {}, {"x": 3}, {}, {}, {"b": 6, "": 7}, {}, {}, {}} {
		for _, key := range []string{"", "a", "b", "c", "x", "y", "ab", "B", "b ", "null", "1", "\xff"} {
			place, ok := want[key]
			if !ok {
				place = -1
			}
			gets(t, l, at, key, place)
		}
	}
	for _, at := range []int{-1, 9, 10, api.MinInt, api.MaxInt} {
		gets(t, l, at, "b", -1)
	}
}

// P12.1: a Key that is there only deeper, only in a neighbour, or only further out.
func TestGetElsewhere(t *testing.T) {
	l := of(`{"a":{"deep":1,"b":{"deeper":2}},"c":{"near":3},"d":[{"in":4}],"e":5}`)
	for _, key := range []string{"deep", "b", "deeper", "near", "in", "", "f"} {
		gets(t, l, 0, key, -1)
	}
	gets(t, l, 1, "deep", 2)
	gets(t, l, 1, "b", 3)
	gets(t, l, 1, "near", -1)
	gets(t, l, 1, "deeper", -1)
	gets(t, l, 1, "a", -1)
	gets(t, l, 1, "c", -1)
	gets(t, l, 1, "e", -1)
	gets(t, l, 3, "deeper", 4)
	gets(t, l, 3, "near", -1)
	gets(t, l, 5, "near", 6)
	gets(t, l, 5, "deep", -1)
	gets(t, l, 5, "in", -1)
	gets(t, l, 7, "in", -1)
	gets(t, l, 8, "in", 9)
	gets(t, l, 8, "e", -1)
	gets(t, l, 0, "e", 10)
	// What a list has is of no Key, not of the empty one.
	gets(t, of("[1,2]"), 0, "", -1)
	gets(t, of(`{"":[1],"a":{}}`), 1, "", -1)
	gets(t, of(`[{"":1}]`), 0, "", -1)
	gets(t, of(`[{"":1}]`), 1, "", 2)
	gets(t, of(`{"":{"":{"":[]}}}`), 0, "", 1)
	gets(t, of(`{"":{"":{"":[]}}}`), 1, "", 2)
	gets(t, of(`{"":{"":{"":[]}}}`), 3, "", -1)
	// The Key of the object itself is none of what it has.
	gets(t, of(`{"a":{"b":1}}`), 1, "a", -1)
}

// P12.1: Keys as they are, not as they look or begin.
func TestGetOfKeys(t *testing.T) {
	var l []row
	for _, key := range keys {
		l = append(l, keyed(key, of("[1]")))
	}
	for k, key := range keys {
		gets(t, object(l...), 0, key, 1+2*k)
		gets(t, object(slices.Delete(slices.Clone(l), k, k+1)...), 0, key, -1)
		for _, other := range []string{key + "\x00\x00", "\x00" + key + "x", key + "\xff", "\xff" + key, key + key + "?"} {
			gets(t, object(l...), 0, other, -1)
		}
	}
	// A byte that is none of a right character counts as no other here.
	for _, key := range broken {
		gets(t, object(keyed("\ufffd", of("1")), keyed("\ufffd\ufffd", of("2")), keyed("a\ufffd", of("3")), keyed("\ufffda", of("4"))), 0, key, -1)
	}
	gets(t, object(keyed("e\u0301", of("1"))), 0, "\u00e9", -1)
}

// P12.1: the first and the last of what a list or an object has, and what is beside them.
func TestItem(t *testing.T) {
	l := row{{Kind: 5, Count: 4}, {Kind: 3, Text: "7"}, {Kind: 6, Count: 2}, {Key: "b", Kind: 5, Count: 1}, {Kind: 1}, {Key: "a"}, {Kind: 5}, {Kind: 4, Text: "x"}}
	for at, want := range [][]int{{1, 2, 6, 7}, {}, {3, 5}, {4}, {}, {}, {}, {}} {
		for k, place := range want {
			items(t, l, at, k, place)
		}
		for _, k := range []int{-1, -2, len(want), len(want) + 1, 8, 9, api.MinInt, api.MaxInt} {
			items(t, l, at, k, -1)
		}
	}
	for _, at := range []int{-1, -2, 8, 9, api.MinInt, api.MaxInt} {
		for _, k := range []int{-1, 0, 1, 3, 4} {
			items(t, l, at, k, -1)
		}
	}
}

// P12.1: the whole, a member, a value deep in.
func TestCut(t *testing.T) {
	l := row{{Kind: 6, Count: 2}, {Kind: 5, Key: "a", Count: 2}, {Kind: 6, Count: 1}, {Kind: 5, Key: "b", Count: 1}, {Kind: 3, Text: "1"}, {Kind: 2}, {Kind: 4, Key: "\u00e4", Text: "t"}}
	is(t, jobj.Cut(l, 0), l)
	is(t, jobj.Cut(l, 1), row{{Kind: 5, Count: 2}, {Kind: 6, Count: 1}, {Kind: 5, Key: "b", Count: 1}, {Kind: 3, Text: "1"}, {Kind: 2}})
	is(t, jobj.Cut(l, 2), row{{Kind: 6, Count: 1}, {Kind: 5, Key: "b", Count: 1}, {Kind: 3, Text: "1"}})
	is(t, jobj.Cut(l, 3), row{{Kind: 5, Count: 1}, {Kind: 3, Text: "1"}})
	is(t, jobj.Cut(l, 4), row{{Kind: 3, Text: "1"}})
	is(t, jobj.Cut(l, 5), row{{Kind: 2}})
	is(t, jobj.Cut(l, 6), row{{Kind: 4, Text: "t"}})
	for _, at := range []int{-1, 7, 8, api.MinInt, api.MaxInt} {
		is(t, jobj.Cut(l, at), nil, at)
	}
}

// P12.1: each place of rows, and beside them.
func TestLookAtEachPlace(t *testing.T) {
	for _, l := range rows() {
		looked(t, l)
		looked(t, list(l))
		for _, other := range []string{"[]", `{"a":[1],"k":{}}`, `"a"`} {
			looked(t, list(l, of(other), l))
			looked(t, object(keyed("k", l), keyed("a", of(other)), keyed("", l)))
			looked(t, object(keyed("z", list(of(other), l)), keyed("a", object(keyed("a", l), keyed("b", of(other))))))
		}
	}
}

// P12.1: as many values as may be, and as deep as may be.
func TestLookAtMuch(t *testing.T) {
	l := members(4999)
	for _, k := range []int{0, 1, 2, 17, 2500, 4997, 4998} {
		gets(t, l, 0, strconv.Itoa(k), k+1)
		items(t, l, 0, k, k+1)
		items(t, nulls(4999), 0, k, k+1)
		is(t, jobj.Cut(l, k+1), of(strconv.Itoa(k)), k)
	}
	for _, k := range []int{-1, 4999, 5000, 5001} {
		gets(t, l, 0, strconv.Itoa(k), -1)
		items(t, l, 0, k, -1)
		items(t, nulls(4999), 0, k, -1)
	}
	is(t, jobj.Cut(l, 0), l)
	is(t, jobj.Cut(nulls(4999), 4999), row{{}})
	is(t, jobj.Cut(nulls(4999), 5000), nil)
	for _, l := range []row{lists(49, of("1")), objects(49, of("[]")), lists(20, objects(29, of("{}"))), objects(30, lists(19, of("null")))} {
		looked(t, l)
		for at := range l {
			want := -1
			if l[at].Kind == api.JsonObject && l[at].Count > 0 {
				want = at + 1
			}
			gets(t, l, at, "a", want)
			is(t, jobj.Cut(l, at), keyed("", l[at:]), at)
		}
	}
	long := strings.Repeat("\u20ac", 1<<20)
	l = object(keyed(long+"a", of("1")), keyed(long, of("2")), keyed(long+"b", jobj.Text(long)))
	gets(t, l, 0, long, 2)
	gets(t, l, 0, long+"b", 3)
	gets(t, l, 0, long+"c", -1)
	gets(t, l, 0, long[:len(long)-1], -1)
	is(t, jobj.Cut(l, 3), row{{Kind: 4, Text: long}})
}

// The rows that the other tests take for wrong ones are.
func TestWrongRows(t *testing.T) {
	for k, l := range wrongRows() {
		if json.Right(l) {
			t.Errorf("%d: %s is right", k, brief(l))
		}
	}
	for k, l := range rows() {
		if !json.Right(l) {
			t.Errorf("%d: %s is not right", k, brief(l))
		}
	}
}

// P12.1: rows that are not right, at each place.
func TestLookAtWrongRows(t *testing.T) {
	for _, l := range withWrong() {
		for at := -1; at <= len(l) && at < 60; at++ {
			notLooked(t, l, at)
		}
		for _, at := range append(far, len(l)-1, len(l)) {
			notLooked(t, l, at)
		}
	}
}

// notLooked tells t where of a row that is not right something is told.
func notLooked(t *testing.T, l row, at int) {
	t.Helper()
	for _, key := range []string{"", "a", "b", "\ufffd", "\xff", "0"} {
		gets(t, l, at, key, -1)
	}
	for _, k := range []int{-1, 0, 1, 2, api.MaxInt} {
		items(t, l, at, k, -1)
	}
	is(t, jobj.Cut(l, at), nil, l, at)
}

// P12.1: a row with one value changed, taken out or put in, at each place.
func TestLookAtChangedRows(t *testing.T) {
	values := row{{}, {Key: "a"}, {Kind: 5, Count: 1}, {Kind: 6, Count: 2}, {Key: "b", Kind: 5}, {Kind: 3}, {Kind: 4, Text: "\xff"}, {Kind: 7}}
	for _, l := range rows() {
		for at := range l {
			lookedBriefly(t, slices.Delete(slices.Clone(l), at, at+1))
			lookedBriefly(t, l[:at])
			lookedBriefly(t, l[at:])
			for _, v := range values {
				lookedBriefly(t, slices.Insert(slices.Clone(l), at, v))
				lookedBriefly(t, slices.Replace(slices.Clone(l), at, at+1, v))
			}
		}
	}
}

// lookedBriefly tells t where of a row, right or not, at a place not all is told that other hands tell.
func lookedBriefly(t *testing.T, l row) {
	t.Helper()
	for at := -1; at <= len(l); at++ {
		for _, key := range []string{"", "a", "b", "k"} {
			gets(t, l, at, key, modelGet(l, at, key))
		}
		for k := -1; k <= 3; k++ {
			items(t, l, at, k, modelItem(l, at, k))
		}
		is(t, jobj.Cut(l, at), modelCut(l, at), l, at)
	}
}

// P12.1 to P12.3: all short rows of the values that matter.
func TestShortRows(t *testing.T) {
	mix := func(size int, values ...api.Value) {
		count := 1
		for range size {
			count *= len(values)
		}
		l := make(row, size)
		for k := range count {
			for at := range l {
				l[at] = values[k%len(values)]
				k /= len(values)
			}
			lookedBriefly(t, l)
			for _, key := range []string{"", "a", "b"} {
				is(t, jobj.Drop(l, key), modelDrop(l, key), l, key)
				is(t, jobj.Set(l, key, row{{Kind: 5}}), modelSet(l, key, row{{Kind: 5}}), l, key)
				is(t, jobj.Set(row{{Kind: 6}}, key, l), modelSet(row{{Kind: 6}}, key, l), key, l)
			}
			grouped(t, []string{"a", "b"}, row{{Kind: 1}}, l)
		}
	}
	var all []api.Value
	for _, key := range []string{"", "a"} {
		for _, kind := range []int{api.JsonNull, api.JsonNumber, api.JsonList, api.JsonObject, 7} {
			for count := -1; count <= 2; count++ {
				all = append(all, api.Value{Kind: kind, Key: key, Count: count, Text: map[int]string{api.JsonNumber: "1"}[kind]})
			}
		}
	}
	for size := range 3 {
		mix(size, all...)
	}
	some := []api.Value{{}, {Key: "a"}, {Key: "b", Kind: 4, Text: "b"}, {Kind: 5, Count: 1}, {Kind: 6, Count: 1}, {Kind: 6, Count: 2}, {Kind: 6, Count: 1, Key: "a"}, {Kind: 5, Count: 2, Key: "b"}}
	for size := range 6 {
		mix(size, some...)
	}
}
