package config_test

import (
	"fmt"
	"slices"
	"strings"
	"testing"

	"onionskin/api"
	"onionskin/config"
	"onionskin/json"
)

// P14.1: how many of the entries are not Empty.
func TestLayers(t *testing.T) {
	kinds := []api.Hist{{}, {By: "x", Rest: bare()}, {Empty: true}, {By: "\xff", Empty: true, Rest: others()}, {Rest: row{{Kind: 9}}}}
	want := []int{1, 1, 0, 0, 1}
	for _, none := range [][]api.Hist{nil, {}} {
		if n := config.Layers(none); n != 0 {
			t.Error(n)
		}
	}
	for k := range 5 * 5 * 5 * 5 {
		var h []api.Hist
		sum := 0
		for rest := k; rest > 0; rest /= 5 {
			h = append(h, kinds[rest%5])
			sum += want[rest%5]
		}
		kept := slices.Clone(h)
		n := config.Layers(h)
		if n != sum || n != modelLayers(h) {
			t.Errorf("%v: %d, not %d", h, n, sum)
		}
		if !same(api.Config{History: h}, api.Config{History: kept}) {
			t.Errorf("%v is changed: %v", kept, h)
		}
	}
	// More than a history may have are counted, too; what stands behind the last one is not.
	all := slices.Repeat(kinds, 100000)
	for _, count := range []int{199, 200, 201, 1000, 5000, 499999, 500000} {
		if n := config.Layers(all[:count]); n != count/5*3+min(count%5, 2) {
			t.Error(count, n)
		}
	}
}

// P14.2: configs, written down.
func TestParse(t *testing.T) {
	parses(t, `{"rootfs":{"type":"layers","diff_ids":[]}}`, api.Config{Rest: row{{Kind: api.JsonObject}}})
	parses(t, `{"rootfs":{"type":"layers","diff_ids":["`+abc+`"]}}`, api.Config{DiffIds: []api.Digest{abcSum}, Rest: row{{Kind: api.JsonObject}}})
	parses(t, `{"history":[],"rootfs":{"diff_ids":["`+zeros+`","`+abc+`","`+abc+`"],"type":"layers"}}`, api.Config{DiffIds: []api.Digest{{}, abcSum, abcSum}, Rest: row{{Kind: api.JsonObject}}})
	parses(t, `{"os":"linux","rootfs":{"type":"layers","diff_ids":["`+abc+`"]},"config":{"b":[1],"a":null},"history":[{"empty_layer":true},{"created_by":"x","z":1,"a":{}},{"created_by":"","empty_layer":true},{"x":"y","empty_layer":true,"created_by":"z"}],"":true}`, api.Config{
		DiffIds: []api.Digest{abcSum},
		History: []api.Hist{
			{Empty: true, Rest: row{{Kind: api.JsonObject}}},
			{By: "x", Rest: row{{Kind: api.JsonObject, Count: 2}, {Kind: api.JsonObject, Key: "a"}, {Kind: api.JsonNumber, Key: "z", Text: "1"}}},
			{Empty: true, Rest: row{{Kind: api.JsonObject}}},
			{By: "z", Empty: true, Rest: row{{Kind: api.JsonObject, Count: 1}, {Kind: api.JsonString, Key: "x", Text: "y"}}},
		},
		Rest: row{{Kind: 6, Count: 3}, {Kind: 1}, {Kind: 6, Key: "config", Count: 2}, {Key: "a"}, {Kind: 5, Key: "b", Count: 1}, {Kind: 3, Text: "1"}, {Kind: 4, Key: "os", Text: "linux"}},
	})
	parses(t, `{"rootfs":{"type":"layers","diff_ids":["`+abc+`","`+zeros+`"]},"history":[{"empty_layer":false},{}]}`, api.Config{DiffIds: []api.Digest{abcSum, {}}, History: []api.Hist{{Rest: bare()}, {Rest: bare()}}, Rest: bare()})
	parses(t, `{"rootfs":{"type":"layers","diff_ids":[]},"history":[{"empty_layer":true}]}`, api.Config{History: []api.Hist{{Empty: true, Rest: bare()}}, Rest: bare()})
}

// P14.2: so many layers; without a history, with an empty one, with an entry each, and with empty ones beside; without other members and with such.
func TestParseOfLayers(t *testing.T) {
	for count := range 61 {
		configs := []api.Config{simple(count), told(count), rested(count)}
		if count < 8 || count%10 == 0 {
			configs = append(configs, rich(count))
		}
		for _, c := range configs {
			parses(t, whole(c, false), c)
			parses(t, whole(c, true), c)
		}
	}
	twice := told(3)
	twice.DiffIds = []api.Digest{sum(1), sum(1), sum(1)}
	twice.History = slices.Repeat(twice.History[:1], 3)
	parses(t, whole(twice, false), twice)
}

// P14.2: each way in which a few entries are Empty, with each number of layers.
func TestParseOfEmpties(t *testing.T) {
	for count := range 7 {
		for bits := range 1 << count {
			for layers := range 8 {
				c := simple(layers)
				for k := range count {
					c.History = append(c.History, api.Hist{By: "b"[:k%2], Empty: bits>>k&1 == 1, Rest: bare()})
				}
				if count == 0 || modelLayers(c.History) == layers {
					parses(t, whole(c, false), c)
					parses(t, whole(c, true), c)
					continue
				}
				fails(t, whole(c, false), api.ErrForm)
				fails(t, whole(c, true), api.ErrForm)
			}
		}
	}
}

// P14.2: members in each order, in the config, in rootfs and in entries.
func TestParseOfOrders(t *testing.T) {
	c := simple(2)
	c.Rest = of(`{"a":{"b":1,"c":2},"z":3}`)
	c.History = []api.Hist{{By: "x", Rest: bare()}, {By: "y", Empty: true, Rest: of(`{"a":1,"z":{"b":1,"c":2}}`)}, {Rest: bare()}}
	for _, members := range orders(rootOf(c.DiffIds), historyOf(c.History), `"z":3`, `"a":{"c":2,"b":1}`) {
		parses(t, object(members...), c)
	}
	for _, members := range orders(`"created_by":"y"`, `"empty_layer":true`, `"z":{"c":2,"b":1}`, `"a":1`) {
		parses(t, object(`"z":3,"a":{"b":1,"c":2}`, rootOf(c.DiffIds), `"history":[{"created_by":"x"},`+object(members...)+`,{}]`), c)
	}
	for _, members := range orders(`"type":"layers"`, `"diff_ids":`+list(idTexts(c.DiffIds)...)) {
		parses(t, object(`"a":{"b":1,"c":2}`, historyOf(c.History), `"rootfs":`+object(members...), `"z":3`), c)
	}
}

// P14.2: blanks where they may stand, and signs that are told by escapes.
func TestParseOfForms(t *testing.T) {
	ids := idTexts(sums(2))
	c := simple(2)
	c.History = []api.Hist{{By: "x", Rest: bare()}, {Empty: true, Rest: of(`{"a":[1]}`)}, {Rest: bare()}}
	for _, blank := range []string{"", " ", "\t", "\n", "\r", "\r\n \t"} {
		s := `|{|"rootfs"|:|{|"type"|:|"layers"|,|"diff_ids"|:|[|` + ids[0] + `|,|` + ids[1] + `|]|}|,|"history"|:|[|{|"created_by"|:|"x"|}|,|{|"empty_layer"|:|true|,|"a"|:|[|1|]|}|,|{|}|]|}|`
		parses(t, strings.ReplaceAll(s, "|", blank), c)
	}
	parses(t, `{"\u0072ootf\u0073":{"typ\u0065":"\u006cayer\u0073","diff\u005fids":["sha256\u003a`+ids[0][8:]+`,`+ids[1]+`]},"h\u0069story":[{"created_b\u0079":"\u0078"},{"empty\u005Flayer":true,"\u0061":[1]},{}]}`, c)
	for _, s := range []string{"\ufeff", "\x00", "\x0c", "\u00a0", "x", ",", "{}", "[]", "null", "1"} {
		fails(t, s+whole(c, false), api.ErrForm)
		fails(t, whole(c, false)+s, api.ErrForm)
	}
	for _, key := range []string{"Rootfs", "HISTORY", "rootfs ", "hist", "historys", "rootfs\x00", "\ufeffhistory", "", "created_by", "empty_layer", "type", "diff_ids"} {
		c := told(1)
		c.Rest = of(object(quoted(key) + ":[1]"))
		parses(t, whole(c, false), c)
	}
	for _, key := range []string{"Created_by", "EMPTY_LAYER", "created_by ", "created", "empty_layers", "empty", "empty_layer\x00", "\ufeffcreated_by", "", "rootfs", "history", "type", "diff_ids"} {
		c := told(3)
		c.History[1].Rest = of(object(quoted(key) + ":[1]"))
		parses(t, whole(c, false), c)
	}
}

// P14.2: each text that a string can have as created_by, and such as it can't.
func TestParseOfBy(t *testing.T) {
	for _, text := range texts {
		for at := range 3 {
			c := told(3)
			c.History[at].By = text
			parses(t, whole(c, false), c)
			parses(t, whole(c, true), c)
			c.History[at].Empty = true
			c.DiffIds = c.DiffIds[:2]
			parses(t, whole(c, false), c)
		}
	}
	for _, text := range broken {
		for at := range 3 {
			l := slices.Repeat([]string{`{"created_by":"x"}`}, 3)
			l[at] = `{"created_by":"` + text + `"}`
			fails(t, object(rootOf(sums(3)), `"history":`+list(l...)), api.ErrForm)
		}
	}
	for _, v := range append(values, quoted(abc), `["x"]`, `{"x":"y"}`, "1.5", "[[]]") {
		if strings.HasPrefix(v, `"`) {
			c := told(1)
			c.History[0].By = of(v)[0].Text
			parses(t, object(rootOf(c.DiffIds), `"history":[{"created_by":`+v+`}]`), c)
			continue
		}
		wrongEntry(t, `{"created_by":`+v+`}`)
		wrongEntry(t, `{"empty_layer":true,"created_by":`+v+`,"x":"y"}`)
	}
}

// P14.2: what may stand as empty_layer, and what may not.
func TestParseOfEmpty(t *testing.T) {
	for _, v := range append(values, `"True"`, `"1"`, "[true]", `{"empty_layer":true}`, `{"true":true}`, "2", "0.0", "[false]") {
		if v == "true" || v == "false" {
			c := told(1)
			c.History = append(c.History, api.Hist{Empty: v == "true", Rest: bare()})
			if v == "false" {
				c.DiffIds = sums(2)
			}
			parses(t, object(rootOf(c.DiffIds), `"history":[{"created_by":"by 0"},{"empty_layer":`+v+`}]`), c)
			continue
		}
		wrongEntry(t, `{"empty_layer":`+v+`}`)
		wrongEntry(t, `{"created_by":"x","empty_layer":`+v+`}`)
		wrongEntry(t, `{"empty_layer":`+v+`,"created_by":1}`)
	}
}

// P14.2: digests of each byte at each place.
func TestParseOfDigests(t *testing.T) {
	for k := range 256 {
		c := simple(3)
		for at := range 32 {
			c.DiffIds[0][at], c.DiffIds[2][at] = byte(k+at), byte(k-at)
		}
		parses(t, whole(c, false), c)
	}
}

// P14.2: bytes that are no JSON.
func TestParseOfNoJSON(t *testing.T) {
	for _, s := range []string{"", " ", "x", "{", "}", "[", "{}}", "nul", `{"a"}`, `{"a":}`, `{a:1}`, `{'a':1}`, "\xff", "{\"a\":\"\xff\"}", `{"\ud800":1}`, `{"rootfs":{"type":"layers","diff_ids":[],}}`, `{"rootfs":{"type":"layers","diff_ids":[,]}}`, `{"rootfs":{"type":'layers',"diff_ids":[]}}`, `"`, "01"} {
		fails(t, s, api.ErrForm)
	}
	c := told(2)
	c.Rest = of(`{"x":[1,{"y":"z"}]}`)
	s := strings.TrimSpace(whole(c, true))
	for at := range len(s) {
		fails(t, s[:at], api.ErrForm)
	}
	if _, err := config.Parse(nil); err != api.ErrForm {
		t.Error(err)
	}
}

// P14.2: JSON that is no object.
func TestParseOfNoObject(t *testing.T) {
	for _, s := range append(slices.Clone(values), "[]", `["rootfs",{"type":"layers","diff_ids":[]}]`, list(whole(told(1), false)), quoted(whole(simple(0), false)), list(object(rootOf(nil))), `"rootfs"`, "{}", `{"x":{}}`) {
		fails(t, s, api.ErrForm)
	}
}

// P14.2: a Key twice in one object, wherever it is; not in two.
func TestParseOfTwice(t *testing.T) {
	both := func(key string) []string {
		return []string{quoted(key), fmt.Sprintf(`"\u%04x`, key[0]) + quoted(key[1:])[1:]}
	}
	ids := `"diff_ids":` + list(idTexts(sums(1))...)
	history := `"history":[{"created_by":"x","empty_layer":false}]`
	for _, key := range []string{"rootfs", "history", "x"} {
		for _, second := range both(key) {
			for _, v := range []string{"null", "[]", `{"type":"layers","diff_ids":[]}`, "x"} {
				fails(t, object(rootOf(sums(1)), history, `"x":1`, second+":"+v), api.ErrTwice)
			}
			fails(t, object(second+`:[]`, rootOf(sums(1)), history, `"x":1`), api.ErrTwice)
		}
	}
	for _, key := range []string{"type", "diff_ids"} {
		for _, second := range both(key) {
			fails(t, object(`"rootfs":`+object(`"type":"layers"`, ids, second+":1"), history), api.ErrTwice)
			fails(t, object(history, `"rootfs":`+object(second+`:"layers"`, `"type":"layers"`, ids)), api.ErrTwice)
		}
	}
	for _, key := range []string{"created_by", "empty_layer", "z"} {
		for _, second := range both(key) {
			fails(t, object(rootOf(sums(1)), `"history":[{"created_by":"x","empty_layer":false,"z":1,`+second+`:true}]`), api.ErrTwice)
			fails(t, object(`"history":[1,{`+second+`:[],"created_by":"x","empty_layer":false,"z":1}]`), api.ErrTwice)
		}
	}
	fails(t, object(rootOf(nil), `"x":{"a":1,"a":1}`), api.ErrTwice)
	fails(t, `[{"a":1,"a":1}]`, api.ErrTwice)
	c := told(2)
	c.History[1].By = c.History[0].By
	c.Rest = of(`{"created_by":1,"x":{"rootfs":1,"x":[]}}`)
	parses(t, whole(c, true), c)
}

// P14.2: values that are too deep, in each member.
func TestParseOfDeep(t *testing.T) {
	c := told(2)
	c.Rest = of(`{"x":` + deep(48) + `}`)
	c.History[1].Rest = of(`{"x":` + deep(46) + `}`)
	parses(t, whole(c, true), c)
	fails(t, object(rootOf(nil), `"history":[{"empty_layer":true,"x":`+deep(47)+`}]`), api.ErrFull)
	for _, depth := range []int{49, 50, 51, 1000, 100000} {
		fails(t, object(rootOf(nil), `"x":`+deep(depth)), api.ErrFull)
		fails(t, object(`"rootfs":`+deep(depth)), api.ErrFull)
		fails(t, object(rootOf(nil), `"history":`+deep(depth)), api.ErrFull)
		fails(t, object(root(deep(depth))), api.ErrFull)
		fails(t, object(`"rootfs":{"diff_ids":[],"type":`+deep(depth)+`}`), api.ErrFull)
		fails(t, object(rootOf(nil), `"history":[{"created_by":`+deep(depth)+`}]`), api.ErrFull)
		fails(t, deep(depth+1), api.ErrFull)
	}
	// Just not too deep, and so of a wrong form.
	fails(t, object(`"rootfs":`+deep(48)), api.ErrForm)
	fails(t, object(root(deep(47))), api.ErrForm)
	fails(t, object(rootOf(nil), `"history":`+deep(48)), api.ErrForm)
	fails(t, object(rootOf(nil), `"history":[{"created_by":`+deep(46)+`}]`), api.ErrForm)
	fails(t, object(rootOf(nil), `"history":[{"empty_layer":`+deep(46)+`}]`), api.ErrForm)
}

// P14.2: values that are too many.
func TestParseOfWide(t *testing.T) {
	for _, layers := range []int{0, 1, 30, 60} {
		c := simple(layers)
		c.Rest = wide(5000 - 3 - layers)
		parses(t, whole(c, false), c)
		fails(t, strings.Replace(whole(c, false), "null", "[null]", 1), api.ErrFull)
		fails(t, whole(c, true), api.ErrFull)
		c.Rest = wide(5000 - 3 - layers + 1)
		fails(t, whole(c, false), api.ErrFull)
		c = told(layers)
		if layers > 0 {
			c.History[layers/2].Rest = wide(5000 - 1 - 3 - layers - 1 - 2*layers + 1)
			parses(t, whole(c, false), c)
			fails(t, strings.Replace(whole(c, false), "null", "{}", 1)+"x", api.ErrForm)
			fails(t, strings.Replace(whole(c, false), "null", "[1]", 1), api.ErrFull)
		}
	}
	nulls := strings.TrimSuffix(strings.Repeat("null,", 4996), ",")
	fails(t, object(root(list(nulls))), api.ErrForm)
	fails(t, object(root(list(nulls, "null"))), api.ErrFull)
	fails(t, object(root(list(nulls, "null", "x"))), api.ErrFull)
	fails(t, object(root(list(nulls, "x"))), api.ErrForm)
	fails(t, object(rootOf(nil), `"history":`+list(nulls[15:])), api.ErrForm)
	fails(t, object(rootOf(nil), `"history":`+list(nulls)), api.ErrFull)
}

// wrongRoots is JSON that is no rootfs.
func wrongRoots() []string {
	kind, ids := `"type":"layers"`, `"diff_ids":`+list(idTexts(sums(2))...)
	l := append([]string{
		object(), object(kind), object(ids), // members missing
		object(kind, ids, `"x":1`), object(`"":null`, kind, ids), object(kind, `"a":[]`, ids), object(kind, ids, `"x":1`, `"y":2`), object(kind, ids, `"Type":"layers"`), // and others
		object(`"Type":"layers"`, ids), object(`"TYPE":"layers"`, ids), object(`"type ":"layers"`, ids), object(`"":"layers"`, ids), object(`"kind":"layers"`, ids), // of other names
		object(kind, strings.ToUpper(`"diff_ids":`)+list()), object(kind, `"diffids":[]`), object(kind, `"diff_id":[]`), object(kind, `"":[]`), object(kind, `"diff-ids":[]`), object(kind, `"x":1`), object(ids, `"x":1`),
		object(`"type":`+list(idTexts(sums(2))...), `"diff_ids":"layers"`), // the one in the place of the other
		list(object(kind, ids)), list(`"layers"`, list(idTexts(sums(2))...)), object(`"rootfs":` + object(kind, ids)), quoted(object(kind, ids)),
	}, values...)
	for _, v := range append(slices.Clone(values), `"layer"`, `"layerss"`, `"Layers"`, `"LAYERS"`, `"layers "`, `" layers"`, `"layers\u0000"`, `"\u004cayers"`, `"l\u0430yers"`, `["layers"]`, `{"layers":1}`, `"diff_ids"`) {
		if v != `"layers"` {
			l = append(l, object(`"type":`+v, ids), object(ids, `"type":`+v))
		}
	}
	for _, v := range append(slices.Clone(values), object(`"0":`+quoted(abc)), quoted(abc), quoted(list(quoted(abc)))) {
		if v != "[]" {
			l = append(l, object(kind, `"diff_ids":`+v), object(`"diff_ids":`+v, kind))
		}
	}
	return l
}

// P14.2: a rootfs that is missing, or none.
func TestParseOfWrongRoots(t *testing.T) {
	fails(t, "{}", api.ErrForm)
	fails(t, object(`"history":[]`), api.ErrForm)
	fails(t, object(`"history":[{"empty_layer":true}]`, `"x":`+object(rootOf(nil))), api.ErrForm)
	fails(t, object(`"type":"layers"`, `"diff_ids":[]`), api.ErrForm)
	fails(t, object(`"Rootfs":{"type":"layers","diff_ids":[]}`), api.ErrForm)
	for _, v := range wrongRoots() {
		of(v)
		fails(t, object(`"rootfs":`+v), api.ErrForm)
		fails(t, object(`"rootfs":`+v, `"history":[]`), api.ErrForm)
		fails(t, object(`"a":1`, `"history":[{},{}]`, `"rootfs":`+v, `"x":{}`), api.ErrForm)
	}
	// Escapes make no other text of it.
	parses(t, `{"rootfs":{"type":"\u006c\u0061\u0079\u0065\u0072\u0073","diff_ids":[]}}`, simple(0))
}

// P14.2: what is no digest's text, at each place of diff_ids.
func TestParseOfWrongIds(t *testing.T) {
	l := slices.DeleteFunc(slices.Clone(values), func(v string) bool { return v == "[]" })
	for _, text := range []string{"", abc[7:], abc[:70], abc + "0", abc[:7], abc[:6] + abc[7:], "sha256:" + strings.ToUpper(abc[7:]), strings.ToUpper(abc), abc[:70] + "D", abc[:70] + "g", "SHA256" + abc[6:], "sha512" + abc[6:], "md5:" + abc[7:], " " + abc, abc + " ", abc[:70] + " ", abc[7:] + abc[:7], "sha256::" + abc[8:], abc[:40] + "\u00e4" + abc[42:], abc + abc, "sha256:" + abc[:64], abc[:70] + "\x00", "sha256:" + strings.Repeat("\uff10", 64)} {
		l = append(l, quoted(text))
	}
	l = append(l, "[]", list(quoted(abc)), object(quoted(abc)+":"+quoted(abc)), object(`"diff_ids":`+list(quoted(abc))))
	for _, bad := range l {
		for _, count := range []int{1, 2, 3, 60, 61, 100} {
			for _, at := range []int{0, 1, count / 2, count - 2, count - 1} {
				if at < 0 || at >= count {
					continue
				}
				ids := idTexts(sums(count))
				ids[at] = bad
				fails(t, object(root(list(ids...))), api.ErrForm)
				if count < 4 {
					fails(t, object(historyOf(told(count).History), root(list(ids...))), api.ErrForm)
					fails(t, object(historyOf(told(count-1).History), root(list(ids...))), api.ErrForm)
				}
			}
		}
	}
	fails(t, object(root(list(idTexts(sums(2))...)+`,"x"`)), api.ErrForm)
	fails(t, object(root(list(list(idTexts(sums(2))...)))), api.ErrForm)
}

// wrongEntry tells t where e, which is JSON but no entry, is taken as one, at any place.
func wrongEntry(t *testing.T, e string) {
	t.Helper()
	of(e)
	for _, count := range []int{1, 2, 3, 60, 200, 201} {
		for _, at := range []int{0, 1, count / 2, count - 2, count - 1} {
			if at < 0 || at >= count {
				continue
			}
			l := append(entries(told(min(count, 60)).History, false), slices.Repeat([]string{`{"empty_layer":true}`}, max(count-60, 0))...)
			l[at] = e
			history := `"history":` + list(l...)
			fails(t, object(rootOf(sums(min(count, 60))), history), api.ErrForm)
			if count < 4 {
				fails(t, object(rootOf(sums(count-1)), history), api.ErrForm)
				fails(t, object(rootOf(sums(0)), history), api.ErrForm)
				fails(t, object(`"x":1`, history, rootOf(sums(61))), api.ErrForm)
			}
		}
	}
}

// P14.2: a history that is no list, and entries that are no objects.
func TestParseOfWrongHistories(t *testing.T) {
	for _, v := range append(slices.Clone(values), entry(told(1).History[0], true), object(`"0":{}`), quoted("[]"), quoted("[{}]"), "[[]]", list(list(entries(told(1).History, true)...))) {
		if v != "[]" {
			fails(t, object(rootOf(sums(0)), `"history":`+v), api.ErrForm)
			fails(t, object(`"history":`+v, rootOf(sums(1)), `"x":[]`), api.ErrForm)
			fails(t, object(rootOf(sums(61)), `"history":`+v), api.ErrForm)
		}
		if of(v)[0].Kind != api.JsonObject {
			wrongEntry(t, v)
		}
	}
	wrongEntry(t, list("{}"))
	wrongEntry(t, list(`"created_by"`, `"x"`))
	wrongEntry(t, `"empty_layer"`)
	// The whole of it is wrong, whatever its entries are.
	wrongEntry(t, values[len(values)-1])
}

// P14.2: 60 digests and 200 entries are fine, more are too many, but first their form is asked.
func TestParseOfTooMany(t *testing.T) {
	empties := func(count int) []string { return slices.Repeat([]string{`{"empty_layer":true}`}, count) }
	full := told(60)
	for k := range 140 {
		full.History = slices.Insert(full.History, k*200/140, api.Hist{By: "x"[:k%2], Empty: true, Rest: bare()})
	}
	parses(t, whole(full, false), full)
	parses(t, whole(full, true), full)
	none := simple(0)
	none.History = slices.Repeat([]api.Hist{{Empty: true, Rest: bare()}}, 200)
	parses(t, whole(none, false), none)
	for _, count := range []int{61, 62, 100, 200, 201, 4996} {
		ids := rootOf(sums(count))
		fails(t, object(ids), api.ErrFull)
		fails(t, object(ids)+"x", api.ErrForm)
		if count > 4000 {
			continue
		}
		for _, history := range []string{"[]", list(entries(told(count).History, true)...), list(entries(told(60).History, true)...), "[{}]", list(empties(1)...), list(empties(200)...), list(empties(201)...)} {
			fails(t, object(ids, `"history":`+history), api.ErrFull)
			fails(t, object(`"history":`+history, `"x":{}`, ids), api.ErrFull)
			fails(t, object(ids, `"history":`+history, `"x":1,"x":1`), api.ErrTwice)
			fails(t, object(ids, `"history":{"x":`+history+`}`), api.ErrForm)
		}
		fails(t, object(ids, `"history":null`), api.ErrForm)
		fails(t, object(strings.Replace(ids, "layers", "layer", 1)), api.ErrForm)
		fails(t, object(strings.Replace(ids, `"type"`, `"x":1,"type"`, 1)), api.ErrForm)
	}
	for _, count := range []int{201, 202, 300, 1000, 2400} {
		for _, layers := range []int{0, 1, 60} {
			history := append(entries(told(layers).History, false), empties(count-layers)...)
			fails(t, object(rootOf(sums(layers)), `"history":`+list(history...)), api.ErrFull)
			slices.Reverse(history)
			fails(t, object(`"history":`+list(history...), rootOf(sums(layers))), api.ErrFull)
			fails(t, object(rootOf(sums(layers+1)), `"history":`+list(history...)), api.ErrFull)
			fails(t, object(`"history":`+list(history...)), api.ErrForm)
			fails(t, object(strings.Replace(rootOf(sums(layers)), "type", "Type", 1), `"history":`+list(history...)), api.ErrForm)
			for _, at := range []int{0, 199, 200, count - 1} {
				wrong := slices.Clone(history)
				wrong[at] = `{"empty_layer":null}`
				fails(t, object(rootOf(sums(layers)), `"history":`+list(wrong...)), api.ErrForm)
			}
		}
		fails(t, object(rootOf(sums(60)), `"history":`+list(slices.Repeat([]string{"{}"}, count)...)), api.ErrFull)
	}
}

// P14.2: entries that are not Empty, one fewer and one more than digests.
func TestParseOfOtherCounts(t *testing.T) {
	for _, layers := range []int{0, 1, 2, 3, 10, 59, 60} {
		for _, about := range []int{-2, -1, 0, 1, 2, 100} {
			for _, empties := range []int{0, 1, 2, 40} {
				if layers+about < 0 {
					continue
				}
				c := simple(layers)
				for k := range layers + about {
					c.History = append(c.History, api.Hist{By: "x"[:k%2], Rest: bare()})
				}
				for k := range empties {
					c.History = slices.Insert(c.History, len(c.History)*k/empties, api.Hist{Empty: true, Rest: bare()})
				}
				switch {
				case about == 0, len(c.History) == 0:
					parses(t, whole(c, false), c)
				case len(c.History) <= 200:
					fails(t, whole(c, false), api.ErrForm)
					fails(t, whole(c, true), api.ErrForm)
				default:
					fails(t, whole(c, false), api.ErrFull)
				}
			}
		}
	}
}

// P14.2: Rest is sorted, in all depths, and has what stands deeper, or is an entry's name in the config, or the config's in an entry.
func TestParseOfRest(t *testing.T) {
	for s, want := range map[string]string{
		``:                                    `{}`,
		`"b":1,"a":2`:                         `{"a":2,"b":1}`,
		`"z":{"d":{"f":1,"e":2},"c":3},"a":0`: `{"a":0,"z":{"c":3,"d":{"e":2,"f":1}}}`,
		`"z":[{"b":1,"a":[{"d":1,"c":2}]},{"":0}]`:                                                      `{"z":[{"a":[{"c":2,"d":1}],"b":1},{"":0}]}`,
		`"x":{"rootfs":[],"history":{"z":1,"y":2}},"created":0`:                                         `{"created":0,"x":{"history":{"y":2,"z":1},"rootfs":[]}}`,
		`"x":{"empty_layer":[],"created_by":{"z":1,"y":2}}`:                                             `{"x":{"created_by":{"y":2,"z":1},"empty_layer":[]}}`,
		`"x":[{"rootfs":1},{"history":2},"rootfs",{"created_by":1,"a":[]},{"empty_layer":2},"history"]`: `{"x":[{"rootfs":1},{"history":2},"rootfs",{"a":[],"created_by":1},{"empty_layer":2},"history"]}`,
		"\"\U0001f600\":1,\"\uffff\":2,\"\u00e4\":3":                                                    "{\"\u00e4\":3,\"\uffff\":2,\"\U0001f600\":1}",
		`"a":1,"":2,"A":3,"aa":4,"\u0000":5`:                                                            `{"":2,"\u0000":5,"A":3,"a":1,"aa":4}`,
		`"x":[3,1,2,"b","a"]`:                                                                           `{"x":[3,1,2,"b","a"]}`,
		`"y":-0,"x":1.50E+03`:                                                                           `{"x":1.50E+03,"y":-0}`,
		`"x":"\u0041\/"`:                                                                                `{"x":"A/"}`,
		`"type":"layers","diff_ids":[]`:                                                                 `{"diff_ids":[],"type":"layers"}`,
	} {
		rest := of(want)
		if !slices.Equal(rest, json.Sort(rest)) {
			t.Errorf("%s is not sorted", want)
		}
		c := told(3)
		c.Rest = rest
		parses(t, object(s, rootOf(c.DiffIds), historyOf(c.History)), c)
		parses(t, object(historyOf(c.History), rootOf(c.DiffIds), s), c)
		for at := range 3 {
			c := told(3)
			c.History[at].Rest = rest
			l := entries(told(3).History, false)
			l[at] = object(s, `"created_by":`+quoted(c.History[at].By))
			parses(t, object(rootOf(c.DiffIds), `"history":`+list(l...)), c)
			l[at] = object(`"empty_layer":false`, s, `"created_by":`+quoted(c.History[at].By))
			parses(t, object(rootOf(c.DiffIds), `"history":`+list(l...)), c)
		}
	}
	for _, v := range values {
		// The names of the one are no names of the other.
		c := told(2)
		c.Rest = json.Sort(of(`{"created_by":` + v + `,"empty_layer":` + v + `,"":{"rootfs":` + v + `}}`))
		c.History[1].Rest = json.Sort(of(`{"rootfs":` + v + `,"history":` + v + `,"":[{"empty_layer":` + v + `}]}`))
		parses(t, whole(c, false), c)
		parses(t, object(`"":{"rootfs":`+v+`}`, historyOf(c.History), `"empty_layer":`+v, rootOf(c.DiffIds), `"created_by":`+v), c)
	}
}

// P14.2: mixes of what stands at each member, in two orders.
func TestParseOfMixes(t *testing.T) {
	roots := []string{"", rootOf(nil), rootOf(sums(1)), rootOf(sums(60)), rootOf(sums(61)), `"rootfs":[]`, root("[1]"), root(list(append(idTexts(sums(60)), "{}")...)), root("[") + "]", `"rootfs":{"diff_ids":[],"type":"layers","x":1}`}
	histories := []string{"", `"history":[]`, `"history":[{}]`, `"history":[{"empty_layer":true}]`, `"history":{}`, `"history":null`, historyOf(rested(60).History), historyOf(told(61).History), `"history":` + list(slices.Repeat([]string{`{"empty_layer":true}`}, 201)...), `"history":[{},1]`, `"history":[{"created_by":null}]`, `"history":` + list(append(slices.Repeat([]string{"{}"}, 200), `{"empty_layer":0}`)...)}
	for _, root := range roots {
		for _, history := range histories {
			for _, other := range []string{"", `"a":[]`, `"a":{"b":1,"a":2}`, `"a":{"b":1,"b":2}`, `"a":` + deep(49), `"a"`, `"created_by":1`} {
				members := []string{root, history, other}
				agreesOn(t, object(members...))
				slices.Reverse(members)
				agreesOn(t, object(members...))
			}
		}
	}
}

// P14.2: mixes of what stands in two entries.
func TestParseOfEntries(t *testing.T) {
	bys := []string{"", `"created_by":""`, `"created_by":"x"`, `"created_by":null`, `"created_by":[]`, `"Created_by":1`}
	empties := []string{"", `"empty_layer":true`, `"empty_layer":false`, `"empty_layer":null`, `"empty_layer":"true"`, `"x":{"empty_layer":true}`}
	var l []string
	for _, by := range bys {
		for _, empty := range empties {
			l = append(l, object(by, empty), object(empty, `"a":{"z":1,"y":2}`, by))
		}
	}
	for _, first := range l {
		for _, second := range l {
			agreesOn(t, object(rootOf(sums(1)), `"history":`+list(first, second)))
			agreesOn(t, object(rootOf(sums(2)), `"history":`+list(first, second)))
		}
		agreesOn(t, object(rootOf(sums(0)), `"history":`+list(first)))
		agreesOn(t, object(rootOf(sums(1)), `"history":`+list(first)))
	}
}

// P14.2: a config with each byte changed, left out, or put in.
func TestParseOfChangedBytes(t *testing.T) {
	s := object(`"b":{"d":[1],"c":2}`, rootOf(sums(1)), `"history":[{"created_by":"x","z":1,"empty_layer":false},{"empty_layer":true}]`)
	for at := range len(s) {
		agreesOn(t, s[:at]+s[at+1:])
		for _, b := range "029-.eaF\"\\{}[]:, \n\x00\u00e4" {
			agreesOn(t, s[:at]+string(b)+s[at+1:])
			agreesOn(t, s[:at]+string(b)+s[at:])
		}
		agreesOn(t, s[:at]+"\xff"+s[at+1:])
	}
}
