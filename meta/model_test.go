package meta_test

import (
	"bytes"
	"encoding/hex"
	encoding "encoding/json"
	"fmt"
	"regexp"
	"slices"
	"strconv"
	"strings"
	"testing"
	"unicode/utf8"

	"onionskin/api"
	"onionskin/json"
	"onionskin/jtext"
	"onionskin/meta"
)

// A row is short for what stands in Rest.
type row = []api.Value

// schema is the member that each manifest has.
const schema = `"schemaVersion":2`

// broken are texts that are no right UTF-8.
var broken = []string{"\x80", "\xbf", "\xff", "\xc3", "\xc0\x80", "\xe2\x82", "\xe0\x80\x80", "\xed\xa0\x80", "\xed\xbf\xbf", "\xf0\x9f\x98", "\xf4\x90\x80\x80", "\xf8\x88\x80\x80\x80", "a\xff", "\xffa", "\u00e4\x80", "\ufffd\xef\xbf"}

// texts are right UTF-8 of no bytes, of characters of one to four, and of such that JSON has escapes for.
var texts = []string{"", "m", "application/vnd.oci.image.layer.v1.tar", api.MediaLayer + "+gzip", " ", "\x00", "\"\\/\b\f\n\r\t\x1f\x7f", "\u00e4\u20ac\U0001f600\U0010ffff", "\ufffd", "a\ufffdb", "\u2028<>&", "config", "null", "sha256:", strings.Repeat("\u00e4x", 5000)}

// sizes are sizes that may be.
var sizes = []int{0, 1, 2, 9, 10, 511, 1<<31 - 1, 1 << 31, 1<<32 + 1, 1 << 53, 1<<53 + 1, 1<<62 - 1, 1 << 62}

// wrongSizes are sizes that may not be.
var wrongSizes = []int{-1, -2, -10, -1 << 31, -1 << 62, -1<<62 - 1, api.MinInt, api.MinInt + 1, 1<<62 + 1, 1<<62 + 2, 1<<63 - 2, api.MaxInt}

// values are JSON of each kind, without others and with such.
var values = []string{"null", "true", "false", "0", "-12.50e+3", "2", `""`, `"s"`, "\"\u00e4\\n\"", "[]", "{}", `[1,[2,{"b":1,"a":[]}],"x"]`, `{"b":[{"d":1,"c":2}],"a":{"":null}}`, `{"config":1,"layers":[],"schemaVersion":3}`}

// of is the row of which s is JSON.
func of(s string) row {
	l, err := json.Parse([]byte(s))
	if err != api.OK {
		panic(s)
	}
	return l
}

// sum is a digest of which each byte is another one, and another digest for each k.
func sum(k int) api.Digest {
	var d api.Digest
	for at := range d {
		d[at] = byte(k*7 + at*37)
	}
	return d
}

// some is a descriptor that may be, another one for each k.
func some(k int) api.Desc {
	return api.Desc{Media: "m" + strconv.Itoa(k), Digest: sum(k), Size: k * 1000003}
}

// somes is so many descriptors.
func somes(count int) []api.Desc {
	var l []api.Desc
	for k := range count {
		l = append(l, some(k+1))
	}
	return l
}

// quoted is the JSON of a string, by other hands.
func quoted(s string) string {
	b, err := encoding.Marshal(s)
	if err != nil {
		panic(err)
	}
	return string(b)
}

// desc is the JSON of a descriptor, whose members are not sorted.
func desc(d api.Desc) string {
	return fmt.Sprintf(`{"mediaType":%s,"digest":"sha256:%x","size":%d}`, quoted(d.Media), d.Digest[:], d.Size)
}

// sorted is the JSON of a descriptor as it is printed.
func sorted(d api.Desc) string {
	return fmt.Sprintf(`{"digest":"sha256:%x","mediaType":%s,"size":%d}`, d.Digest[:], jtext.Quote(d.Media), d.Size)
}

// list is the JSON of a list.
func list(l ...string) string { return "[" + strings.Join(l, ",") + "]" }

// object is the JSON of an object of members.
func object(members ...string) string { return "{" + strings.Join(members, ",") + "}" }

// descs is the JSON of a list of descriptors.
func descs(l []api.Desc) string {
	var out []string
	for _, d := range l {
		out = append(out, desc(d))
	}
	return list(out...)
}

// with is the JSON of a manifest of which config and layers are these.
func with(config, layers string, others ...string) string {
	return object(append([]string{schema, `"config":` + config, `"layers":` + layers}, others...)...)
}

// whole is the JSON of m, neither sorted nor as Print prints it.
func whole(m api.Manifest) string {
	rest, ok := json.Print(m.Rest)
	if !ok {
		panic(brief(m))
	}
	members := []string{`"layers" : ` + descs(m.Layers), "\"config\":\n" + desc(m.Config)}
	if len(rest) > 2 {
		members = append([]string{string(rest[1 : len(rest)-1])}, members...)
	}
	return "\t{" + strings.Join(members, " , ") + "} "
}

// simple is a manifest of so many layers, without other members.
func simple(count int) api.Manifest {
	return api.Manifest{Config: some(0), Layers: somes(count), Rest: of("{" + schema + "}")}
}

// rich is a manifest of so many layers, with other members of each kind.
func rich(count int) api.Manifest {
	m := simple(count)
	var members []string
	for k, v := range values {
		members = append(members, quoted(string(rune('a'+k)))+":"+v)
	}
	m.Rest = json.Sort(of(object(append(members, schema)...)))
	return m
}

// wide is a manifest of so many layers, and a Rest of so many values.
func wide(layers, rest int) api.Manifest {
	m := simple(layers)
	m.Rest = slices.Concat(row{{Kind: api.JsonObject, Count: 2}, {Kind: api.JsonNumber, Key: "schemaVersion", Text: "2"}, {Kind: api.JsonList, Key: "x", Count: rest - 3}}, make(row, rest-3))
	return m
}

// deep is so many lists in one another, in the last one null.
func deep(count int) string { return strings.Repeat("[", count) + "null" + strings.Repeat("]", count) }

// digestForm is a digest's text.
var digestForm = regexp.MustCompile(`^sha256:([0-9a-f]{64})$`)

// sizeForm is the text of a whole number that is not below 0.
var sizeForm = regexp.MustCompile(`^(0|[1-9][0-9]*)$`)

// decode is what JSON means, by other hands, with numbers as texts.
func decode(b []byte) any {
	var v any
	d := encoding.NewDecoder(bytes.NewReader(b))
	d.UseNumber()
	if err := d.Decode(&v); err != nil {
		panic(err)
	}
	return v
}

// encode is the row of what JSON means, sorted by other hands.
func encode(v any) row {
	b, err := encoding.Marshal(v)
	if err != nil {
		panic(err)
	}
	return of(string(b))
}

// modelDesc is the descriptor that v is, told by other hands.
func modelDesc(v any) (api.Desc, bool) {
	members, isMap := v.(map[string]any)
	media, isMedia := members["mediaType"].(string)
	name, isName := members["digest"].(string)
	number, isNumber := members["size"].(encoding.Number)
	if !isMap || !isMedia || !isName || !isNumber || len(members) != 3 {
		return api.Desc{}, false
	}
	found := digestForm.FindStringSubmatch(name)
	if found == nil || !sizeForm.MatchString(string(number)) {
		return api.Desc{}, false
	}
	size, err := strconv.ParseUint(string(number), 10, 64)
	if err != nil || size > 1<<62 {
		return api.Desc{}, false
	}
	b, err := hex.DecodeString(found[1])
	if err != nil {
		panic(err)
	}
	return api.Desc{Media: media, Digest: api.Digest(b), Size: int(size)}, true
}

// modelParse is Parse, told by other hands.
func modelParse(b []byte) (api.Manifest, api.Errno) {
	if _, err := json.Parse(b); err != api.OK {
		return api.Manifest{}, err
	}
	all, isMap := decode(b).(map[string]any)
	config, isDesc := modelDesc(all["config"])
	layers, isList := all["layers"].([]any)
	if !isMap || !isDesc || !isList || all["schemaVersion"] != encoding.Number("2") {
		return api.Manifest{}, api.ErrForm
	}
	m := api.Manifest{Config: config}
	for _, layer := range layers {
		d, isDesc := modelDesc(layer)
		if !isDesc {
			return api.Manifest{}, api.ErrForm
		}
		m.Layers = append(m.Layers, d)
	}
	if len(layers) > 60 {
		return api.Manifest{}, api.ErrFull
	}
	delete(all, "config")
	delete(all, "layers")
	m.Rest = encode(all)
	return m, api.OK
}

// modelPrint is Print, told by other hands.
func modelPrint(m api.Manifest) ([]byte, bool) {
	b, ok := json.Print(m.Rest)
	if !ok {
		return nil, false
	}
	all, isMap := decode(b).(map[string]any)
	if !isMap || all["schemaVersion"] != encoding.Number("2") || !slices.Equal(encode(all), m.Rest) || len(m.Layers) > 60 {
		return nil, false
	}
	for _, key := range []string{"config", "layers"} {
		if _, has := all[key]; has {
			return nil, false
		}
	}
	for _, d := range append(slices.Clone(m.Layers), m.Config) {
		if !utf8.ValidString(d.Media) || d.Size < 0 || uint64(d.Size) > 1<<62 {
			return nil, false
		}
	}
	if len(m.Rest)+4+1+4*len(m.Layers) > 5000 {
		return nil, false
	}
	all["config"] = decode([]byte(desc(m.Config)))
	all["layers"] = decode([]byte(descs(m.Layers)))
	return json.Print(encode(all))
}

// brief is what tells of anything; where it is long, of its beginning and its end.
func brief(x any) string {
	s := fmt.Sprintf("%+q", fmt.Sprintf("%+v", x))
	if len(s) > 400 {
		s = s[:200] + " .. " + s[len(s)-200:]
	}
	return s
}

// same is whether two manifests are one.
func same(a, b api.Manifest) bool {
	return a.Config == b.Config && slices.Equal(a.Layers, b.Layers) && slices.Equal(a.Rest, b.Rest)
}

// apart is a copy of m that shares nothing with it.
func apart(m api.Manifest) api.Manifest {
	m.Layers, m.Rest = slices.Clone(m.Layers), slices.Clone(m.Rest)
	return m
}

// parses tells t where s is not parsed as want, or what is parsed is not right, or is printed as something else.
func parses(t *testing.T, s string, want api.Manifest) {
	t.Helper()
	m, err := meta.Parse([]byte(s))
	if err != api.OK || !same(m, want) {
		t.Errorf("%s: %s, %v, not %s", brief(s), brief(m), err, brief(want))
	}
	if err == api.OK && !meta.Right(m) {
		t.Errorf("%s: %s is not right", brief(s), brief(m))
	}
	if err == api.OK {
		roundTrip(t, m)
	}
}

// fails tells t where s is parsed, or with another error, or something is told beside the error.
func fails(t *testing.T, s string, want api.Errno) {
	t.Helper()
	m, err := meta.Parse([]byte(s))
	if err != want || !same(m, api.Manifest{}) {
		t.Errorf("%s: %v, %s, not %v", brief(s), err, brief(m), want)
	}
}

// prints tells t where m is not printed so, or is not told to be right.
func prints(t *testing.T, m api.Manifest, want string) {
	t.Helper()
	if b, ok := meta.Print(m); string(b) != want || !ok {
		t.Errorf("%s: %s, %t, not %s", brief(m), brief(string(b)), ok, brief(want))
	}
	if !meta.Right(m) {
		t.Errorf("%s is not right", brief(m))
	}
}

// isWrong tells t where m is told to be right, or something of it is printed.
func isWrong(t *testing.T, m api.Manifest, why ...any) {
	t.Helper()
	if b, ok := meta.Print(m); len(b) > 0 || ok || meta.Right(m) {
		t.Errorf("%s: %s: printed %s, %t, right %t", brief(why), brief(m), brief(string(b)), ok, meta.Right(m))
	}
}

// roundTrip tells t where m is not printed, parsed as it was, and printed so again.
func roundTrip(t *testing.T, m api.Manifest) {
	t.Helper()
	b, ok := meta.Print(m)
	back, err := meta.Parse(b)
	again, _ := meta.Print(back)
	if !ok || err != api.OK || !same(back, m) || !bytes.Equal(again, b) {
		t.Errorf("%s: printed %s, %t, parsed %s, %v", brief(m), brief(string(b)), ok, brief(back), err)
	}
}

// agreesOn tells t where s is not parsed as other hands parse it.
func agreesOn(t *testing.T, s string) {
	t.Helper()
	if want, err := modelParse([]byte(s)); err != api.OK {
		fails(t, s, err)
	} else {
		parses(t, s, want)
	}
}

// agreesAbout tells t where m is not printed as other hands print it.
func agreesAbout(t *testing.T, m api.Manifest, why ...any) {
	t.Helper()
	if want, ok := modelPrint(m); ok {
		prints(t, m, string(want))
		roundTrip(t, m)
	} else {
		isWrong(t, m, why...)
	}
}
