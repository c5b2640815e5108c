package meta_test

import (
	"fmt"
	"slices"
	"strconv"
	"strings"
	"testing"

	"onionskin/api"
	"onionskin/json"
	"onionskin/meta"
)

const (
	zeros = "sha256:0000000000000000000000000000000000000000000000000000000000000000"
	abc   = "sha256:ba7816bf8f01cfea414140de5dae2223b00361a396177a9cb410ff61f20015ad"
)

// abcSum is the digest whose text abc is.
var abcSum = api.Digest{0xba, 0x78, 0x16, 0xbf, 0x8f, 0x01, 0xcf, 0xea, 0x41, 0x41, 0x40, 0xde, 0x5d, 0xae, 0x22, 0x23, 0xb0, 0x03, 0x61, 0xa3, 0x96, 0x17, 0x7a, 0x9c, 0xb4, 0x10, 0xff, 0x61, 0xf2, 0x00, 0x15, 0xad}

// P13.1: manifests, written down.
func TestParse(t *testing.T) {
	const config = `{"mediaType":"c","digest":"` + abc + `","size":3}`
	const layer = `{"size":4611686018427387904,"digest":"` + zeros + `","mediaType":"application/vnd.oci.image.layer.v1.tar"}`
	abcDesc := api.Desc{Media: "c", Digest: abcSum, Size: 3}
	zeroDesc := api.Desc{Media: "application/vnd.oci.image.layer.v1.tar", Size: 1 << 62}
	bare := row{{Kind: api.JsonObject, Count: 1}, {Kind: api.JsonNumber, Key: "schemaVersion", Text: "2"}}
	parses(t, `{"schemaVersion":2,"config":`+config+`,"layers":[]}`, api.Manifest{Config: abcDesc, Rest: bare})
	parses(t, `{"schemaVersion":2,"config":`+config+`,"layers":[`+layer+`]}`, api.Manifest{Config: abcDesc, Layers: []api.Desc{zeroDesc}, Rest: bare})
	parses(t, `{"schemaVersion":2,"config":`+layer+`,"layers":[`+config+`,`+layer+`,`+config+`]}`, api.Manifest{Config: zeroDesc, Layers: []api.Desc{abcDesc, zeroDesc, abcDesc}, Rest: bare})
	parses(t, `{"x":[1],"schemaVersion":2,"layers":[`+config+`],"annotations":{"b":"c","a":null},"config":`+config+`,"":true}`, api.Manifest{
		Config: abcDesc,
		Layers: []api.Desc{abcDesc},
		Rest:   row{{Kind: 6, Count: 4}, {Kind: 1}, {Kind: 6, Key: "annotations", Count: 2}, {Key: "a"}, {Kind: 4, Key: "b", Text: "c"}, {Kind: 3, Key: "schemaVersion", Text: "2"}, {Kind: 5, Key: "x", Count: 1}, {Kind: 3, Text: "1"}},
	})
}

// P13.1: so many layers, in order, without other members and with such of each kind.
func TestParseOfLayers(t *testing.T) {
	for count := range 61 {
		parses(t, with(desc(some(0)), descs(somes(count))), simple(count))
		parses(t, whole(rich(count)), rich(count))
	}
	twice := simple(3)
	twice.Layers = []api.Desc{some(1), some(1), some(1)}
	twice.Config = some(1)
	parses(t, whole(twice), twice)
}

// P13.1: members in each order, in the manifest and in descriptors.
func TestParseOfOrders(t *testing.T) {
	m := simple(2)
	m.Rest = of(`{"a":{"b":1,"c":2},"schemaVersion":2}`)
	media, name, size := `"mediaType":"m0"`, `"digest":"`+digestText(sum(0))+`"`, `"size":0`
	for _, members := range orders(media, name, size) {
		for _, all := range orders(schema, `"config":`+object(members...), `"layers":`+descs(m.Layers), `"a":{"c":2,"b":1}`) {
			parses(t, object(all...), m)
		}
		m := simple(3)
		m.Layers[1] = some(0)
		parses(t, with(desc(some(0)), list(desc(some(1)), object(members...), desc(some(3)))), m)
	}
}

// orders is all orders of what is handed in.
func orders(l ...string) [][]string {
	if len(l) == 0 {
		return [][]string{nil}
	}
	var out [][]string
	for k, first := range l {
		for _, others := range orders(slices.Delete(slices.Clone(l), k, k+1)...) {
			out = append(out, append([]string{first}, others...))
		}
	}
	return out
}

// P13.1: blanks where they may stand, and signs that are told by escapes.
func TestParseOfForms(t *testing.T) {
	for _, blank := range []string{"", " ", "\t", "\n", "\r", "\r\n \t"} {
		s := `|{|"schemaVersion"|:|2|,|"config"|:|{|"mediaType"|:|"m0"|,|"digest"|:|"` + digestText(sum(0)) + `"|,|"size"|:|0|}|,|"layers"|:|[|` + strings.ReplaceAll(desc(some(1)), ",", "|,|") + `|,|` + desc(some(2)) + `|]|}|`
		parses(t, strings.ReplaceAll(s, "|", blank), simple(2))
	}
	parses(t, `{"\u0073chema\u0056ersion":2,"\u0063onfig":{"media\u0054ype":"\u006d0","diges\u0074":"sha256\u003a`+digestText(sum(0))[7:]+`","\u0073ize":0},"layer\u0073":[]}`, simple(0))
	for _, s := range []string{"\ufeff", "\x00", "\x0c", "\u00a0", "x", ",", "{}", "[]", "null", "1"} {
		fails(t, s+whole(simple(1)), api.ErrForm)
		fails(t, whole(simple(1))+s, api.ErrForm)
	}
	for _, key := range []string{"Config", "LAYERS", "config ", "layer", "schemaversion", "config\x00", "\ufeffconfig"} {
		m := simple(1)
		m.Rest = json.Sort(of(object(quoted(key)+":[1]", schema)))
		parses(t, whole(m), m)
	}
}

// P13.1: each text that a string can have as mediaType.
func TestParseOfMedia(t *testing.T) {
	for k, text := range texts {
		m := simple(len(texts))
		m.Config.Media = text
		m.Layers[k].Media = text
		parses(t, whole(m), m)
	}
	for _, text := range broken {
		fails(t, with(`{"mediaType":"`+text+`","digest":"`+abc+`","size":1}`, "[]"), api.ErrForm)
		fails(t, with(desc(some(0)), `[{"mediaType":"`+text+`","digest":"`+abc+`","size":1}]`), api.ErrForm)
	}
}

// P13.1: sizes from 0 to 2^62.
func TestParseOfSizes(t *testing.T) {
	for _, size := range sizes {
		m := simple(3)
		m.Config.Size = size
		parses(t, whole(m), m)
		m.Layers[2].Size = size
		parses(t, whole(m), m)
	}
	for _, size := range wrongSizes {
		wrongEverywhere(t, `{"mediaType":"m","digest":"`+abc+`","size":`+strconv.Itoa(size)+`}`)
	}
}

// P13.1: digests of each byte at each place.
func TestParseOfDigests(t *testing.T) {
	for k := range 256 {
		m := simple(2)
		for at := range 32 {
			m.Config.Digest[at] = byte(k + at)
			m.Layers[1].Digest[at] = byte(k - at)
		}
		parses(t, whole(m), m)
	}
}

// digestText is the text of a digest, by other hands.
func digestText(d api.Digest) string {
	const digits = "0123456789abcdef"
	s := "sha256:"
	for _, b := range d {
		s += string(digits[b/16]) + string(digits[b%16])
	}
	return s
}

// P13.1: bytes that are no JSON.
func TestParseOfNoJSON(t *testing.T) {
	for _, s := range []string{"", " ", "x", "{", "}", "[", "{}}", "nul", `{"a"}`, `{"a":}`, `{a:1}`, `{'a':1}`, "\xff", "{\"a\":\"\xff\"}", `{"\ud800":1}`, `{"schemaVersion":2,}`, `{"schemaVersion":02}`, `"`, "01"} {
		fails(t, s, api.ErrForm)
	}
	s := with(desc(some(0)), descs(somes(2)), `"x":[1,{"y":"z"}]`)
	for at := range len(s) {
		fails(t, s[:at], api.ErrForm)
	}
	if _, err := meta.Parse(nil); err != api.ErrForm {
		t.Error(err)
	}
}

// P13.1: JSON that is no object.
func TestParseOfNoObject(t *testing.T) {
	for _, s := range []string{"null", "true", "false", "2", `""`, `"schemaVersion"`, "[]", `["schemaVersion",2,"config","layers"]`, list(whole(simple(1))), "[2," + desc(some(0)) + ",[]]", "{}", descs(somes(1)), desc(some(0)), quoted(whole(simple(0)))} {
		fails(t, s, api.ErrForm)
	}
}

// P13.1: a Key twice in one object, wherever it is; not in two.
func TestParseOfTwice(t *testing.T) {
	config, layers := `"config":`+desc(some(0)), `"layers":`+descs(somes(1))
	for _, member := range []string{schema, config, layers, `"x":1`} {
		key, _, _ := strings.Cut(member, ":")
		for _, second := range []string{member, key + ":null", fmt.Sprintf(`"\u%04x`, member[1]) + member[2:]} {
			fails(t, object(schema, config, layers, `"x":1`, second), api.ErrTwice)
			fails(t, object(second, schema, config, layers, `"x":1`), api.ErrTwice)
			fails(t, object(schema, config, layers, `"x":1`, second, `"y"`), api.ErrTwice)
			fails(t, object(`"y"`, schema, config, layers, `"x":1`, second), api.ErrForm)
		}
		// Behind the second Key nothing is read any more, ahead of it all is.
		fails(t, object(schema, config, layers, `"x":1`, key+"?"), api.ErrTwice)
		fails(t, object(key+"?", schema, config, layers, `"x":1`), api.ErrForm)
	}
	for _, member := range []string{`"mediaType":"m"`, `"digest":"` + abc + `"`, `"size":3`, `"size":null`} {
		d := `{"mediaType":"m","digest":"` + abc + `","size":3,` + member + `}`
		fails(t, with(d, "[]"), api.ErrTwice)
		for _, at := range []int{0, 1, 2} {
			l := []string{desc(some(1)), desc(some(2)), desc(some(3))}
			l[at] = d
			fails(t, with(desc(some(0)), list(l...)), api.ErrTwice)
			// Told by json, also where nothing else is as it must be.
			fails(t, `{"config":1,"layers":`+list(l...)+`}`, api.ErrTwice)
		}
	}
	fails(t, with(desc(some(0)), "[]", `"x":{"a":1,"a":1}`), api.ErrTwice)
	fails(t, `{"x":[{"a":1,"b":{},"a":1}]}`, api.ErrTwice)
	fails(t, `[{"a":1,"a":1}]`, api.ErrTwice)
	parses(t, with(desc(some(0)), "[]", `"x":{"a":1,"b":{"a":1}}`, `"y":{"a":1}`, `"a":1`), api.Manifest{Config: some(0), Rest: of(`{"a":1,"schemaVersion":2,"x":{"a":1,"b":{"a":1}},"y":{"a":1}}`)})
}

// P13.1: values that are too deep, or too many, in each member.
func TestParseOfTooMuch(t *testing.T) {
	fine := simple(1)
	fine.Rest = of(`{"schemaVersion":2,"x":` + deep(48) + `}`)
	parses(t, whole(fine), fine)
	for _, depth := range []int{49, 50, 51, 1000, 100000} {
		fails(t, with(desc(some(0)), descs(somes(1)), `"x":`+deep(depth)), api.ErrFull)
		fails(t, with(deep(depth), "[]"), api.ErrFull)
		fails(t, with(desc(some(0)), deep(depth)), api.ErrFull)
		fails(t, `{"schemaVersion":`+deep(depth)+`}`, api.ErrFull)
		fails(t, deep(depth+1), api.ErrFull)
	}
	// Just not too deep, and so no descriptors.
	fails(t, with(deep(48), "[]"), api.ErrForm)
	fails(t, with(desc(some(0)), deep(48)), api.ErrForm)
	for _, layers := range []int{0, 1, 30, 60} {
		m := wide(layers, 5000-4-1-4*layers)
		parses(t, whole(m), m)
		more := wide(layers, 5000-4-1-4*layers+1)
		fails(t, whole(more), api.ErrFull)
		fails(t, strings.Replace(whole(m), "null", "[null]", 1), api.ErrFull)
	}
	nulls := strings.TrimSuffix(strings.Repeat("null,", 4998), ",")
	fails(t, `{"a":`+list(nulls)+`}`, api.ErrForm)
	fails(t, `{"a":`+list(nulls, "null")+`}`, api.ErrFull)
	fails(t, list(nulls, "null"), api.ErrForm)
	fails(t, list(nulls, "null,null"), api.ErrFull)
	fails(t, list(nulls, "null,x"), api.ErrForm)
	fails(t, list(nulls, "null,null,x"), api.ErrFull)
	fails(t, list(nulls, "null,null")+"x", api.ErrFull)
}

// P13.1: the schemaVersion must be the number whose text is 2.
func TestParseOfSchemas(t *testing.T) {
	others := []string{`"config":` + desc(some(0)), `"layers":` + descs(somes(2))}
	fails(t, object(others...), api.ErrForm)
	for _, version := range append(values, "1", "3", "2.0", "2.", "2e0", "2E0", "2e+0", "2e-0", "20", "22", "02", "-2", "+2", "0.2e1", "20e-1", `"2"`, "[2]", `{"2":2}`, "0", "12", "2 2", "\u00b2") {
		if version == "2" {
			continue
		}
		fails(t, object(append(others, `"schemaVersion":`+version)...), api.ErrForm)
		fails(t, object(append([]string{`"schemaVersion":` + version}, others...)...), api.ErrForm)
	}
	for _, key := range []string{"SchemaVersion", "schemaversion", "schemaVersion ", "schema", "", "version", "schemaVersionx"} {
		fails(t, object(append(others, quoted(key)+":2")...), api.ErrForm)
	}
	fails(t, object(append(others, `"x":{"schemaVersion":2}`)...), api.ErrForm)
	parses(t, object(append(others, `"schemaVersion" : 2 `)...), simple(2))
}

// wrongDescs is JSON that is no descriptor.
func wrongDescs() []string {
	media, name, size := `"mediaType":"m"`, `"digest":"`+abc+`"`, `"size":3`
	l := append([]string{
		object(media, name), object(media, size), object(name, size), object(media), object(name), object(size), // members missing
		object(media, name, size, `"urls":[]`), object(media, name, size, `"":null`), object(`"a":"b"`, media, name, size), object(media, name, size, `"x":1`, `"y":2`), // and others
		object(`"mediatype":"m"`, name, size), object(media, `"Digest":"`+abc+`"`, size), object(media, name, `"sizes":3`), object(`"MediaType":"m"`, name, size), object(media, name, `"":3`), // of other names
		list(`"m"`, quoted(abc), "3"), list(object(media, name, size)), object(`"x":` + object(media, name, size)), quoted(abc), quoted(object(media, name, size)),
		object(`"mediaType":`+quoted(abc), `"digest":"m"`, size), object(`"mediaType":3`, name, `"size":"m"`), // the one in the place of the other
	}, values...)
	for _, v := range append(values, quoted(abc)) {
		if !strings.HasPrefix(v, `"`) {
			l = append(l, object(`"mediaType":`+v, name, size), object(media, `"digest":`+v, size))
		}
		if v != "0" && v != "2" {
			l = append(l, object(media, name, `"size":`+v))
		}
	}
	for _, text := range []string{"", abc[7:], abc[:70], abc + "0", abc[:7], abc[:6] + abc[7:], "sha256:" + strings.ToUpper(abc[7:]), strings.ToUpper(abc), abc[:70] + "D", abc[:70] + "g", "SHA256" + abc[6:], "sha512" + abc[6:], "md5:" + abc[7:], " " + abc, abc + " ", abc[:70] + " ", abc[7:] + abc[:7], "sha256::" + abc[8:], abc[:40] + "\u00e4" + abc[42:], abc + abc, "sha256:" + abc[:64], abc[:70] + "\x00", "sha256:" + strings.Repeat("\uff10", 64)} {
		l = append(l, object(media, `"digest":`+quoted(text), size))
	}
	for _, text := range []string{"-1", "-0", "-3", "3.0", "0.0", "3.5", "0e0", "3e0", "3E0", "3e+2", "3e-1", "30e-1", "-0.0", "4611686018427387905", "4611686018427387904.0", "9223372036854775807", "9223372036854775808", "18446744073709551616", "18446744073709551619", "-9223372036854775808", "-9223372036854775809", "46116860184273879040", "100000000000000000000000000000003", "1e18", `"3"`, `"0"`, `""`, "[3]", `{"3":3}`} {
		l = append(l, object(media, name, `"size":`+text))
	}
	return l
}

// wrongEverywhere tells t where d, which is JSON but no descriptor, is taken as one, at any place.
func wrongEverywhere(t *testing.T, d string) {
	t.Helper()
	fails(t, with(d, "[]"), api.ErrForm)
	fails(t, with(d, descs(somes(2))), api.ErrForm)
	fails(t, with(d, list(d)), api.ErrForm)
	for count := 1; count <= 3; count++ {
		for at := range count {
			var l []string
			for k := range count {
				l = append(l, desc(some(k)))
			}
			l[at] = d
			fails(t, with(desc(some(0)), list(l...)), api.ErrForm)
		}
	}
}

// P13.1: what is no descriptor, as config and at each place of layers.
func TestParseOfWrongDescs(t *testing.T) {
	for _, d := range wrongDescs() {
		of(d)
		wrongEverywhere(t, d)
	}
	for _, d := range []string{`{"mediaType":"m","digest":"` + abc + `","size":03}`, `{"mediaType":"m","digest":"` + abc + `","size":+3}`, `{"mediaType":"m","digest":"` + abc + `","size":3.}`, `{"mediaType":"m","digest":"` + abc + `","size":}`, `{"mediaType":"m","digest":"` + abc + `","size":3,}`} {
		wrongEverywhere(t, d)
	}
	fails(t, with("", "[]"), api.ErrForm)
	fails(t, with(desc(some(0)), list(desc(some(1)), "")), api.ErrForm)
}

// P13.1: config that is missing, and layers that are missing, or no list.
func TestParseOfWrongMembers(t *testing.T) {
	config, layers := `"config":`+desc(some(0)), `"layers":`+descs(somes(2))
	for _, members := range [][]string{{}, {schema}, {config}, {layers}, {schema, config}, {schema, layers}, {config, layers}, {schema, `"x":` + object(config, layers)}, {schema, config, `"x":` + object(layers)}, {schema, layers, `"x":` + object(config)}} {
		fails(t, object(members...), api.ErrForm)
	}
	for _, v := range append(values, desc(some(0)), object(`"0":`+desc(some(0))), quoted("[]")) {
		if v != "[]" {
			fails(t, with(desc(some(0)), v), api.ErrForm)
		}
	}
	fails(t, with(desc(some(0)), list(descs(somes(1)))), api.ErrForm)
	fails(t, with(desc(some(0)), list(desc(some(0)), "[]")), api.ErrForm)
	fails(t, with(descs(somes(1)), "[]"), api.ErrForm)
	fails(t, with(descs(somes(1)), desc(some(0))), api.ErrForm)
}

// P13.1: 60 layers are fine, more are too many, but first all else is asked.
func TestParseOfTooManyLayers(t *testing.T) {
	parses(t, whole(rich(60)), rich(60))
	bad := `{"mediaType":"m","digest":"` + abc + `","size":-1}`
	for _, count := range []int{61, 62, 63, 100, 120, 1000, 1247, 1248} {
		s := with(desc(some(0)), descs(somes(count)))
		fails(t, s, api.ErrFull)
		fails(t, strings.Replace(s, schema, `"schemaVersion":1`, 1), api.ErrForm)
		fails(t, with(bad, descs(somes(count))), api.ErrForm)
		fails(t, object(schema, `"layers":`+descs(somes(count))), api.ErrForm)
		fails(t, object(`"config":`+desc(some(0)), `"layers":`+descs(somes(count))), api.ErrForm)
		for _, at := range []int{0, 30, 59, 60, count - 1} {
			l := slices.Repeat([]string{desc(some(1))}, count)
			l[at] = bad
			fails(t, with(desc(some(0)), list(l...)), api.ErrForm)
			l[at] = "1"
			fails(t, with(desc(some(0)), list(l...)), api.ErrForm)
		}
	}
	fails(t, with(desc(some(0)), descs(somes(1249))), api.ErrFull)
	fails(t, with(bad, descs(somes(1249))), api.ErrFull)
	fails(t, with(desc(some(0)), descs(somes(61)), `"x":1,"x":1`), api.ErrTwice)
	fails(t, with(desc(some(0)), descs(somes(61)))+"x", api.ErrForm)
	fails(t, with(desc(some(0)), descs(somes(61)), `"config":1`), api.ErrTwice)
}

// P13.1: Rest is sorted, in all depths, and has config and layers that stand deeper.
func TestParseOfRest(t *testing.T) {
	for s, want := range map[string]string{
		`"b":1,"a":2`:                                `{"a":2,"b":1,"schemaVersion":2}`,
		`"z":{"d":{"f":1,"e":2},"c":3}`:              `{"schemaVersion":2,"z":{"c":3,"d":{"e":2,"f":1}}}`,
		`"z":[{"b":1,"a":[{"d":1,"c":2}]},{"":0}]`:   `{"schemaVersion":2,"z":[{"a":[{"c":2,"d":1}],"b":1},{"":0}]}`,
		`"x":{"layers":[],"config":{"z":1,"y":2}}`:   `{"schemaVersion":2,"x":{"config":{"y":2,"z":1},"layers":[]}}`,
		`"x":[{"config":1},{"layers":2},"config"]`:   `{"schemaVersion":2,"x":[{"config":1},{"layers":2},"config"]}`,
		`"x":{"schemaVersion":3}`:                    `{"schemaVersion":2,"x":{"schemaVersion":3}}`,
		"\"\U0001f600\":1,\"\uffff\":2,\"\u00e4\":3": "{\"schemaVersion\":2,\"\u00e4\":3,\"\uffff\":2,\"\U0001f600\":1}",
		`"a":1,"":2,"A":3,"aa":4,"\u0000":5`:         `{"":2,"\u0000":5,"A":3,"a":1,"aa":4,"schemaVersion":2}`,
		`"x":[3,1,2,"b","a"]`:                        `{"schemaVersion":2,"x":[3,1,2,"b","a"]}`,
		`"x":1.50E+03,"y":-0`:                        `{"schemaVersion":2,"x":1.50E+03,"y":-0}`,
		`"x":"\u0041\/"`:                             `{"schemaVersion":2,"x":"A/"}`,
		`"mediaType":"m","digest":"d","size":"s"`:    `{"digest":"d","mediaType":"m","schemaVersion":2,"size":"s"}`,
	} {
		m := simple(2)
		m.Rest = of(want)
		if !slices.Equal(m.Rest, json.Sort(m.Rest)) {
			t.Errorf("%s is not sorted", want)
		}
		parses(t, with(desc(some(0)), descs(somes(2)), s), m)
		parses(t, object(s, `"layers":`+descs(somes(2)), schema, `"config":`+desc(some(0))), m)
	}
	for k, v := range values {
		m := simple(1)
		m.Rest = json.Sort(of(`{"schemaVersion":2,"x":` + v + `}`))
		parses(t, with(desc(some(0)), descs(somes(1)), `"x":`+v), m)
		m.Rest = json.Sort(of(`{"schemaVersion":2,"t":` + v + `,"c":[` + v + `],"":{"k":` + v + `}}`))
		parses(t, object(`"t":`+v, schema, `"c":[`+v+`]`, `"layers":`+descs(somes(1)), `"":{"k":`+v+`}`, `"config":`+desc(some(0))), m)
		if len(m.Rest) < 5 {
			t.Error(k)
		}
	}
}

// P13.1: mixes of what stands at each member, in two orders.
func TestParseOfMixes(t *testing.T) {
	configs := []string{"", desc(some(0)), "1", object(), desc(some(0))[:5] + "}", `{"mediaType":"m","digest":"` + abc + `","size":-1}`}
	lists := []string{"", "[]", descs(somes(1)), descs(somes(60)), descs(somes(61)), "{}", list(desc(some(1)), "1"), list(append(slices.Repeat([]string{desc(some(1))}, 61), "[]")...), "[["}
	for _, version := range []string{"", "2", "1", `"2"`, "2.0", "2x"} {
		for _, config := range configs {
			for _, layers := range lists {
				for _, other := range []string{"", "[]", `{"b":1,"a":2}`, `{"b":1,"b":2}`, deep(49)} {
					var members []string
					for k, v := range []string{version, config, layers, other} {
						if v != "" {
							members = append(members, []string{`"schemaVersion":`, `"config":`, `"layers":`, `"a":`}[k]+v)
						}
					}
					agreesOn(t, object(members...))
					slices.Reverse(members)
					agreesOn(t, object(members...))
				}
			}
		}
	}
}

// P13.1: a manifest with each byte changed, left out, or put in twice.
func TestParseOfChangedBytes(t *testing.T) {
	s := object(`"b":{"d":[1],"c":2}`, schema, `"config":`+desc(some(0)), `"layers":`+descs(somes(1)))
	for at := range len(s) {
		agreesOn(t, s[:at]+s[at+1:])
		for _, b := range "029-.eaF\"\\{}[]:, \n\x00\u00e4" {
			agreesOn(t, s[:at]+string(b)+s[at+1:])
			agreesOn(t, s[:at]+string(b)+s[at:])
		}
		agreesOn(t, s[:at]+"\xff"+s[at+1:])
	}
}
