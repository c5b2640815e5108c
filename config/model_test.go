package config_test

import (
	"bytes"
	"encoding/hex"
	encoding "encoding/json"
	"fmt"
	"regexp"
	"slices"
	"strconv"
	"strings"
	"testing"
	"unicode/utf8"

	"onionskin/api"
	"onionskin/config"
	"onionskin/json"
)

// A row is short for what stands in Rest.
type row = []api.Value

const (
	zeros = "sha256:0000000000000000000000000000000000000000000000000000000000000000"
	abc   = "sha256:ba7816bf8f01cfea414140de5dae2223b00361a396177a9cb410ff61f20015ad"
)

// abcSum is the digest whose text abc is.
var abcSum = api.Digest{0xba, 0x78, 0x16, 0xbf, 0x8f, 0x01, 0xcf, 0xea, 0x41, 0x41, 0x40, 0xde, 0x5d, 0xae, 0x22, 0x23, 0xb0, 0x03, 0x61, 0xa3, 0x96, 0x17, 0x7a, 0x9c, 0xb4, 0x10, 0xff, 0x61, 0xf2, 0x00, 0x15, 0xad}

// broken are texts that are no right UTF-8.
var broken = []string{"\x80", "\xbf", "\xff", "\xc3", "\xc0\x80", "\xe2\x82", "\xe0\x80\x80", "\xed\xa0\x80", "\xed\xbf\xbf", "\xf0\x9f\x98", "\xf4\x90\x80\x80", "\xf8\x88\x80\x80\x80", "a\xff", "\xffa", "\u00e4\x80", "\ufffd\xef\xbf"}

// texts are right UTF-8 of characters of one to four bytes, of such that JSON has escapes for, and none.
var texts = []string{"", "x", "/bin/sh -c #(nop) CMD [\"sh\"]", " ", "\x00", "\"\\/\b\f\n\r\t\x1f\x7f", "\u00e4\u20ac\U0001f600\U0010ffff", "\ufffd", "a\ufffdb", "\u2028<>&", "created_by", "null", "true", abc, strings.Repeat("\u00e4x", 5000)}

// values are JSON of each kind, without others and with such.
var values = []string{"null", "true", "false", "0", "-12.50e+3", "1", `""`, `"s"`, "\"\u00e4\\n\"", `"true"`, `"false"`, `"layers"`, "[]", "{}", `[1,[2,{"b":1,"a":[]}],"x"]`, `{"b":[{"d":1,"c":2}],"a":{"":null}}`, `{"rootfs":1,"history":[],"created_by":2,"empty_layer":"x","type":3,"diff_ids":0}`}

// of is the row of which s is JSON.
func of(s string) row {
	l, err := json.Parse([]byte(s))
	if err != api.OK {
		panic(s)
	}
	return l
}

// sum is a digest of which each byte is another one, and another digest for each k.
func sum(k int) api.Digest {
	var d api.Digest
	for at := range d {
		d[at] = byte(k*7 + at*37)
	}
	return d
}

// sums is so many digests.
func sums(count int) []api.Digest {
	var l []api.Digest
	for k := range count {
		l = append(l, sum(k))
	}
	return l
}

// quoted is the JSON of a string, by other hands.
func quoted(s string) string {
	b, err := encoding.Marshal(s)
	if err != nil {
		panic(err)
	}
	return string(b)
}

// list is the JSON of a list.
func list(l ...string) string { return "[" + strings.Join(l, ",") + "]" }

// object is the JSON of an object of members; where one is empty, it has none there.
func object(members ...string) string {
	return "{" + strings.Join(slices.DeleteFunc(slices.Clone(members), func(s string) bool { return s == "" }), ",") + "}"
}

// idTexts is the JSON of digests, each.
func idTexts(l []api.Digest) []string {
	var out []string
	for _, d := range l {
		out = append(out, `"sha256:`+hex.EncodeToString(d[:])+`"`)
	}
	return out
}

// root is the member rootfs of which the digests' list is that JSON; its members are not sorted.
func root(ids string) string { return `"rootfs":{"type":"layers","diff_ids":` + ids + `}` }

// rootOf is the member rootfs of those digests.
func rootOf(ids []api.Digest) string { return root(list(idTexts(ids)...)) }

// printedRoot is the member rootfs of those digests, as it is printed.
func printedRoot(ids []api.Digest) string {
	return `"rootfs":{"diff_ids":` + list(idTexts(ids)...) + `,"type":"layers"}`
}

// membersOf is the members of an object.
func membersOf(l row) string {
	b, ok := json.Print(l)
	if !ok || l[0].Kind != api.JsonObject {
		panic(brief(l))
	}
	return string(b[1 : len(b)-1])
}

// entry is the JSON of an entry, whose members are not sorted; if full, it has those that it need not have.
func entry(h api.Hist, full bool) string {
	var empty, by string
	if h.Empty || full {
		empty = `"empty_layer":` + strconv.FormatBool(h.Empty)
	}
	if h.By != "" || full {
		by = `"created_by":` + quoted(h.By)
	}
	return object(empty, membersOf(h.Rest), by)
}

// entries is the JSON of each entry, as entry is.
func entries(l []api.Hist, full bool) []string {
	var out []string
	for _, h := range l {
		out = append(out, entry(h, full))
	}
	return out
}

// historyOf is the member history of those entries.
func historyOf(l []api.Hist) string { return `"history":` + list(entries(l, false)...) }

// whole is the JSON of c, neither sorted nor as Print prints it; if full, it has what it need not have.
func whole(c api.Config, full bool) string {
	history := ""
	if len(c.History) > 0 || full {
		history = `"history" : ` + list(entries(c.History, full)...)
	}
	return "\t" + object(membersOf(c.Rest), rootOf(c.DiffIds), history) + "\n "
}

// bare is the row of an object of none.
func bare() row { return row{{Kind: api.JsonObject}} }

// others is the row of an object of members of each kind, sorted.
func others() row {
	var members []string
	for k, v := range values {
		members = append(members, quoted(string(rune('a'+k)))+":"+v)
	}
	return json.Sort(of(object(members...)))
}

// simple is a config of so many layers, without a history.
func simple(count int) api.Config {
	return api.Config{DiffIds: sums(count), Rest: bare()}
}

// told is a config of so many layers, with an entry for each.
func told(count int) api.Config {
	c := simple(count)
	for k := range count {
		c.History = append(c.History, api.Hist{By: "by " + strconv.Itoa(k), Rest: bare()})
	}
	return c
}

// rich is a config of so many layers, with other members of each kind, and empty entries beside those of the layers: at first, at last, and between some.
func rich(count int) api.Config {
	c := told(count)
	empty := api.Hist{Empty: true, Rest: others()}
	var history []api.Hist
	for k, h := range c.History {
		if k%2 == 0 {
			history = append(history, empty)
		}
		if k%3 == 0 {
			h.Rest = others()
		}
		if k%4 == 3 {
			h.By = ""
		}
		history = append(history, h)
	}
	c.History = append(history, api.Hist{By: "last", Empty: true, Rest: bare()})
	c.Rest = others()
	return c
}

// rested is rich with small Rests, so that there may be 60 layers.
func rested(count int) api.Config {
	c := rich(count)
	for k := range c.History {
		c.History[k].Rest = json.Sort(of(fmt.Sprintf(`{"z":[%d],"a":{"rootfs":"x","created_by":false}}`, k)))
	}
	return c
}

// wide is an object of so many values.
func wide(count int) row {
	return slices.Concat(row{{Kind: api.JsonObject, Count: 1}, {Kind: api.JsonList, Key: "x", Count: count - 2}}, make(row, count-2))
}

// deep is so many lists in one another, in the last one null.
func deep(count int) string { return strings.Repeat("[", count) + "null" + strings.Repeat("]", count) }

// orders is all orders of what is handed in.
func orders(l ...string) [][]string {
	if len(l) == 0 {
		return [][]string{nil}
	}
	var out [][]string
	for k, first := range l {
		for _, others := range orders(slices.Delete(slices.Clone(l), k, k+1)...) {
			out = append(out, append([]string{first}, others...))
		}
	}
	return out
}

// idForm is a digest's text.
var idForm = regexp.MustCompile(`^sha256:([0-9a-f]{64})$`)

// decode is what JSON means, by other hands, with numbers as texts.
func decode(b []byte) any {
	var v any
	d := encoding.NewDecoder(bytes.NewReader(b))
	d.UseNumber()
	if err := d.Decode(&v); err != nil {
		panic(err)
	}
	return v
}

// encode is the row of what JSON means, sorted by other hands, and whether it is not too much.
func encode(v any) (row, bool) {
	b, err := encoding.Marshal(v)
	if err != nil {
		panic(err)
	}
	l, no := json.Parse(b)
	return l, no == api.OK
}

// modelRoot is the digests that v has, told by other hands.
func modelRoot(v any) ([]api.Digest, bool) {
	members, _ := v.(map[string]any)
	texts, isList := members["diff_ids"].([]any)
	if len(members) != 2 || members["type"] != "layers" || !isList {
		return nil, false
	}
	var ids []api.Digest
	for _, text := range texts {
		s, _ := text.(string)
		found := idForm.FindStringSubmatch(s)
		if found == nil {
			return nil, false
		}
		b, err := hex.DecodeString(found[1])
		if err != nil {
			panic(err)
		}
		ids = append(ids, api.Digest(b))
	}
	return ids, true
}

// modelEntry is the entry that v is, told by other hands.
func modelEntry(v any) (api.Hist, bool) {
	members, isMap := v.(map[string]any)
	by, hasBy := members["created_by"]
	text, isText := by.(string)
	empty, hasEmpty := members["empty_layer"]
	flag, isFlag := empty.(bool)
	if !isMap || hasBy && !isText || hasEmpty && !isFlag {
		return api.Hist{}, false
	}
	delete(members, "created_by")
	delete(members, "empty_layer")
	l, _ := encode(members)
	return api.Hist{By: text, Empty: flag, Rest: l}, true
}

// modelLayers is how many of h are not Empty, told from behind.
func modelLayers(h []api.Hist) int {
	if len(h) == 0 {
		return 0
	}
	count := modelLayers(h[:len(h)-1])
	if h[len(h)-1].Empty {
		return count
	}
	return count + 1
}

// modelParse is Parse, told by other hands.
func modelParse(b []byte) (api.Config, api.Errno) {
	if _, err := json.Parse(b); err != api.OK {
		return api.Config{}, err
	}
	all, isMap := decode(b).(map[string]any)
	ids, isRoot := modelRoot(all["rootfs"])
	given, has := all["history"]
	items, isList := given.([]any)
	if !isMap || !isRoot || has && !isList {
		return api.Config{}, api.ErrForm
	}
	c := api.Config{DiffIds: ids}
	for _, item := range items {
		h, ok := modelEntry(item)
		if !ok {
			return api.Config{}, api.ErrForm
		}
		c.History = append(c.History, h)
	}
	switch {
	case len(ids) > 60, len(items) > 200:
		return api.Config{}, api.ErrFull
	case len(items) > 0 && modelLayers(c.History) != len(ids):
		return api.Config{}, api.ErrForm
	}
	delete(all, "rootfs")
	delete(all, "history")
	c.Rest, _ = encode(all)
	return c, api.OK
}

// modelRest is what an object is that is right and sorted, and without those members, told by other hands.
func modelRest(l row, keys ...string) (map[string]any, bool) {
	b, ok := json.Print(l)
	if !ok {
		return nil, false
	}
	members, isMap := decode(b).(map[string]any)
	if sorted, _ := encode(members); !isMap || !slices.Equal(sorted, l) {
		return nil, false
	}
	for _, key := range keys {
		if _, has := members[key]; has {
			return nil, false
		}
	}
	return members, true
}

// modelPrint is Print, told by other hands.
func modelPrint(c api.Config) ([]byte, bool) {
	all, ok := modelRest(c.Rest, "rootfs", "history")
	if !ok || len(c.DiffIds) > 60 || len(c.History) > 200 || len(c.History) > 0 && modelLayers(c.History) != len(c.DiffIds) {
		return nil, false
	}
	all["rootfs"] = decode([]byte(object(printedRoot(c.DiffIds)))).(map[string]any)["rootfs"]
	var items []any
	for _, h := range c.History {
		members, ok := modelRest(h.Rest, "created_by", "empty_layer")
		if !ok || !utf8.ValidString(h.By) {
			return nil, false
		}
		if len(h.By) > 0 {
			members["created_by"] = h.By
		}
		if h.Empty {
			members["empty_layer"] = true
		}
		items = append(items, members)
	}
	if items != nil {
		all["history"] = items
	}
	l, ok := encode(all)
	if !ok {
		return nil, false
	}
	return json.Print(l)
}

// brief is what tells of anything; where it is long, of its beginning and its end.
func brief(x any) string {
	s := fmt.Sprintf("%+v", x)
	if len(s) > 400 {
		s = s[:200] + " .. " + s[len(s)-200:]
	}
	return fmt.Sprintf("%+q", s)
}

// same is whether two configs are one.
func same(a, b api.Config) bool {
	return slices.Equal(a.DiffIds, b.DiffIds) && slices.Equal(a.Rest, b.Rest) && slices.EqualFunc(a.History, b.History, func(a, b api.Hist) bool {
		return a.By == b.By && a.Empty == b.Empty && slices.Equal(a.Rest, b.Rest)
	})
}

// apart is a copy of c that shares nothing with it.
func apart(c api.Config) api.Config {
	c.DiffIds, c.History, c.Rest = slices.Clone(c.DiffIds), slices.Clone(c.History), slices.Clone(c.Rest)
	for k := range c.History {
		c.History[k].Rest = slices.Clone(c.History[k].Rest)
	}
	return c
}

// parses tells t where s is not parsed as want, or what is parsed is not right, or is printed as something else.
func parses(t *testing.T, s string, want api.Config) {
	t.Helper()
	c, err := config.Parse([]byte(s))
	if err != api.OK || !same(c, want) {
		t.Errorf("%s: %s, %v, not %s", brief(s), brief(c), err, brief(want))
		return
	}
	if !config.Right(c) {
		t.Errorf("%s: %s is not right", brief(s), brief(c))
	}
	roundTrip(t, c)
}

// fails tells t where s is parsed, or with another error, or something is told beside the error.
func fails(t *testing.T, s string, want api.Errno) {
	t.Helper()
	c, err := config.Parse([]byte(s))
	if err != want || !same(c, api.Config{}) {
		t.Errorf("%s: %v, %s, not %v", brief(s), err, brief(c), want)
	}
}

// prints tells t where c is not printed so, or is not told to be right.
func prints(t *testing.T, c api.Config, want string) {
	t.Helper()
	if b, ok := config.Print(c); string(b) != want || !ok {
		t.Errorf("%s: %s, %t, not %s", brief(c), brief(string(b)), ok, brief(want))
	}
	if !config.Right(c) {
		t.Errorf("%s is not right", brief(c))
	}
}

// isWrong tells t where c is told to be right, or something of it is printed.
func isWrong(t *testing.T, c api.Config, why ...any) {
	t.Helper()
	if b, ok := config.Print(c); len(b) > 0 || ok || config.Right(c) {
		t.Errorf("%s: %s: printed %s, %t, right %t", brief(why), brief(c), brief(string(b)), ok, config.Right(c))
	}
}

// roundTrip tells t where c is not printed, parsed as it was, and printed so again.
func roundTrip(t *testing.T, c api.Config) {
	t.Helper()
	b, ok := config.Print(c)
	back, err := config.Parse(b)
	again, _ := config.Print(back)
	if !ok || err != api.OK || !same(back, c) || !bytes.Equal(again, b) {
		t.Errorf("%s: printed %s, %t, parsed %s, %v", brief(c), brief(string(b)), ok, brief(back), err)
	}
}

// agreesOn tells t where s is not parsed as other hands parse it.
func agreesOn(t *testing.T, s string) {
	t.Helper()
	if want, err := modelParse([]byte(s)); err != api.OK {
		fails(t, s, err)
	} else {
		parses(t, s, want)
	}
}

// agreesAbout tells t where c is not printed as other hands print it.
func agreesAbout(t *testing.T, c api.Config, why ...any) {
	t.Helper()
	if want, ok := modelPrint(c); ok {
		prints(t, c, string(want))
		roundTrip(t, c)
	} else {
		isWrong(t, c, why...)
	}
}
