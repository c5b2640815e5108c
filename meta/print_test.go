package meta_test

import (
	"slices"
	"strconv"
	"strings"
	"testing"

	"onionskin/api"
	"onionskin/json"
	"onionskin/meta"
)

// rested is a manifest of so many layers that has that Rest.
func rested(count int, rest row) api.Manifest {
	m := simple(count)
	m.Rest = rest
	return m
}

// P13.2: what is printed, written down.
func TestPrint(t *testing.T) {
	abcDesc := api.Desc{Media: "c", Digest: abcSum, Size: 3}
	zeroDesc := api.Desc{Media: "\"\n\u00e4", Size: 1 << 62}
	const config = `{"digest":"` + abc + `","mediaType":"c","size":3}`
	const layer = `{"digest":"` + zeros + "\",\"mediaType\":\"\\\"\\n\u00e4\",\"size\":4611686018427387904}"
	bare := row{{Kind: api.JsonObject, Count: 1}, {Kind: api.JsonNumber, Key: "schemaVersion", Text: "2"}}
	prints(t, api.Manifest{Config: abcDesc, Rest: bare}, `{"config":`+config+`,"layers":[],"schemaVersion":2}`)
	prints(t, api.Manifest{Config: abcDesc, Layers: []api.Desc{}, Rest: bare}, `{"config":`+config+`,"layers":[],"schemaVersion":2}`)
	prints(t, api.Manifest{Rest: bare}, `{"config":{"digest":"`+zeros+`","mediaType":"","size":0},"layers":[],"schemaVersion":2}`)
	prints(t, api.Manifest{Config: zeroDesc, Layers: []api.Desc{abcDesc}, Rest: bare}, `{"config":`+layer+`,"layers":[`+config+`],"schemaVersion":2}`)
	prints(t, api.Manifest{Config: abcDesc, Layers: []api.Desc{zeroDesc, abcDesc, zeroDesc}, Rest: bare}, `{"config":`+config+`,"layers":[`+layer+`,`+config+`,`+layer+`],"schemaVersion":2}`)
	rest := row{{Kind: 6, Count: 7}, {Key: ""}, {Kind: 4, Key: "conf", Text: "a"}, {Kind: 2, Key: "configs"}, {Kind: 5, Key: "l", Count: 1}, {Kind: 3, Text: "-0.50"}, {Kind: 6, Key: "layerss"}, {Kind: 3, Key: "schemaVersion", Text: "2"}, {Kind: 1, Key: "\u00e4"}}
	prints(t, api.Manifest{Config: abcDesc, Layers: []api.Desc{abcDesc}, Rest: rest}, `{"":null,"conf":"a","config":`+config+`,"configs":false,"l":[-0.50],"layers":[`+config+"],\"layerss\":{},\"schemaVersion\":2,\"\u00e4\":true}")
}

// P13.2, P13.4: so many layers, without other members and with such of each kind.
func TestPrintOfLayers(t *testing.T) {
	for count := range 61 {
		var l []string
		for _, d := range somes(count) {
			l = append(l, sorted(d))
		}
		prints(t, simple(count), object(`"config":`+sorted(some(0)), `"layers":`+list(l...), schema))
		agreesAbout(t, simple(count))
		agreesAbout(t, rich(count))
		roundTrip(t, rich(count))
	}
	for _, count := range []int{61, 62, 120, 1000, 1248, 1249, 100000} {
		isWrong(t, simple(count), count)
		isWrong(t, rich(count), count)
	}
}

// P13.2: the Rest must be a right row, in each way in which one can be none.
func TestPrintOfWrongRows(t *testing.T) {
	second := api.Value{Kind: 3, Key: "schemaVersion", Text: "2"}
	l := []row{
		nil, {}, make(row, 0, 5), {second}, {{Kind: 3, Text: "2"}}, // no object
		{{Kind: 6, Count: 1}, second, second}, {{Kind: 6, Count: 1}, second, {}}, {{Kind: 6}, second}, // more than one
		{{Kind: 6, Count: 2}, second}, {{Kind: 6, Count: 1}}, {{Kind: 6, Count: 2}, second, {Kind: 5, Key: "x", Count: 1}}, {{Kind: 6, Count: api.MaxInt}, second}, // not all there
		{{Kind: 6, Count: -1}, second}, {{Kind: 6, Count: api.MinInt}}, {{Kind: 6, Count: 2}, second, {Kind: 5, Key: "x", Count: -1}},
		{{Kind: 6, Count: 2}, second, second}, {{Kind: 6, Count: 3}, {Key: "a"}, {Key: "a"}, second}, {{Kind: 6, Count: 2}, second, {Kind: 6, Key: "x", Count: 2}, {}, {}}, // Keys twice
		{{Kind: 6, Key: "a", Count: 1}, second}, {{Kind: 6, Text: "a", Count: 1}, second}, {{Kind: 6, Count: 2}, second, {Kind: 5, Key: "x", Count: 1}, {Key: "y"}}, // Keys and Texts where none may be
		{{Kind: 6, Count: 2}, second, {Key: "x", Text: "y"}}, {{Kind: 6, Count: 2}, second, {Key: "x", Kind: 1, Count: 1}}, {{Kind: 6, Count: 2}, second, {Key: "x", Kind: 3, Text: "01"}}, {{Kind: 6, Count: 2}, second, {Key: "x", Kind: 3}},
		{{Kind: 6, Count: 2}, second, {Key: "x", Kind: 7}}, {{Kind: 6, Count: 2}, second, {Key: "x", Kind: -1}}, {{Kind: 7, Count: 1}, second}, {{Kind: 1<<32 + 6, Count: 1}, second},
		{{Kind: 6, Count: 1}, {Kind: 3, Key: "schemaVersion", Text: "2", Count: 1}}, {{Kind: 6, Count: 1}, {Kind: 3, Key: "schemaVersion", Text: "2", Count: -1}},
		slices.Concat(row{{Kind: 6, Count: 2}, second}, row{{Kind: 5, Key: "x", Count: 1}}, slices.Repeat(row{{Kind: 5, Count: 1}}, 48), row{{}}), // too deep
		slices.Concat(row{{Kind: 6, Count: 2}, second, {Kind: 5, Key: "x", Count: 4998}}, make(row, 4998)),                                        // too many
	}
	for _, s := range broken {
		l = append(l, row{{Kind: 6, Count: 2}, second, {Kind: 4, Key: "x", Text: s}}, row{{Kind: 6, Count: 2}, second, {Kind: 4, Key: "x" + s}}, row{{Kind: 6, Count: 2}, second, {Kind: 5, Key: "x", Count: 1}, {Kind: 4, Text: s}})
	}
	for _, rest := range l {
		for _, count := range []int{0, 1, 60} {
			isWrong(t, rested(count, rest))
			agreesAbout(t, rested(count, rest))
		}
	}
	isWrong(t, api.Manifest{})
}

// P13.2: a Rest that is no object, or has no schemaVersion, or another one.
func TestPrintOfSchemas(t *testing.T) {
	for _, v := range append(values, list(`"schemaVersion"`, "2"), list(object(schema)), object(`"x":`+object(schema)), object(`"SchemaVersion":2`), object(`"schemaversion":2`), object(`"schemaVersion ":2`), object(`"a":2`, `"b":"schemaVersion"`)) {
		isWrong(t, rested(1, json.Sort(of(v))))
	}
	for _, v := range append(values, "1", "3", "-2", "2.0", "2e0", "2E0", "20", "22", "0.2e1", `"2"`, "[2]", `{"2":2}`) {
		if v != "2" {
			isWrong(t, rested(1, json.Sort(of(object(`"schemaVersion":`+v)))), v)
			isWrong(t, rested(1, json.Sort(of(object(`"a":1`, `"schemaVersion":`+v, `"x":2`)))), v)
		}
	}
	prints(t, rested(0, of(object(schema))), object(`"config":`+sorted(some(0)), `"layers":[]`, schema))
}

// P13.2: a Rest that has config or layers, and one that has them deeper.
func TestPrintOfTakenKeys(t *testing.T) {
	for _, v := range append(values, desc(some(0)), descs(somes(1))) {
		for _, key := range []string{"config", "layers"} {
			isWrong(t, rested(1, json.Sort(of(object(quoted(key)+":"+v, schema)))), key, v)
			isWrong(t, rested(0, json.Sort(of(object(quoted(key)+":"+v, schema, `"a":1`, `"m":2`, `"z":3`)))), key, v)
		}
		isWrong(t, rested(1, json.Sort(of(object(`"config":`+v, `"layers":`+v, schema)))), v)
		rest := json.Sort(of(object(schema, `"x":`+object(`"config":`+v, `"layers":`+v), `"a":[`+object(`"layers":`+v)+`]`)))
		agreesAbout(t, rested(1, rest))
		roundTrip(t, rested(1, rest))
	}
	roundTrip(t, rested(1, of(`{"configs":1,"layer":2,"schemaVersion":2}`)))
}

// P13.2: a Rest must be sorted, in all depths.
func TestPrintOfUnsorted(t *testing.T) {
	for _, s := range []string{
		`{"x":1,"schemaVersion":2}`, `{"schemaVersion":2,"a":1}`, `{"schemaVersion":2,"":1}`, `{"a":1,"schemaVersion":2,"b":3}`, `{"b":1,"a":2,"schemaVersion":2}`, `{"schemaVersion":2,"z":1,"y":2}`,
		`{"schemaVersion":2,"x":{"b":1,"a":2}}`, `{"schemaVersion":2,"x":[{"b":1,"a":2}]}`, `{"a":{"b":{"c":{"e":1,"d":2}}},"schemaVersion":2}`, `{"schemaVersion":2,"x":[1,[2,[{"a":1},{"b":1,"":2}]]]}`,
		`{"a":1,"A":2,"schemaVersion":2}`, "{\"schemaVersion\":2,\"\U0001f600\":1,\"\uffff\":2}", `{"schemaVersion":2,"x":{"aa":1,"a":2}}`,
	} {
		for _, count := range []int{0, 1, 60} {
			isWrong(t, rested(count, of(s)), s)
			roundTrip(t, rested(count, json.Sort(of(s))))
		}
	}
	for _, s := range []string{`{"":1,"schemaVersion":2}`, `{"schemaVersion":2,"x":["b","a",{"b":1},{"a":2}]}`, `{"schemaVersion":2,"x":{"a":{"b":1},"b":{"a":1}}}`, "{\"schemaVersion\":2,\"\u00e4\":1,\"\uffff\":2,\"\U0001f600\":3}"} {
		roundTrip(t, rested(2, of(s)))
	}
}

// P13.2: Media that is right UTF-8 and such that is not, of the config and of each layer.
func TestPrintOfMedia(t *testing.T) {
	for _, text := range texts {
		for count := range 3 {
			for at := -1; at < count; at++ {
				m := simple(count)
				*descAt(&m, at) = api.Desc{Media: text, Digest: abcSum, Size: 1}
				agreesAbout(t, m)
			}
		}
	}
	for _, text := range broken {
		for _, count := range []int{0, 1, 2, 3, 60} {
			for at := -1; at < count; at++ {
				m := simple(count)
				descAt(&m, at).Media = text
				isWrong(t, m, text, count, at)
				descAt(&m, at).Media = "ab" + text
				isWrong(t, m, text, count, at)
			}
		}
	}
}

// descAt is the descriptor of a layer, or, at -1, of the config.
func descAt(m *api.Manifest, at int) *api.Desc {
	if at < 0 {
		return &m.Config
	}
	return &m.Layers[at]
}

// P13.2: sizes, of the config and of each layer.
func TestPrintOfSizes(t *testing.T) {
	for _, count := range []int{0, 1, 3, 60} {
		for _, at := range []int{-1, 0, 1, 2, 30, 59} {
			if at >= count {
				break
			}
			for _, size := range sizes {
				m := simple(count)
				descAt(&m, at).Size = size
				agreesAbout(t, m)
			}
			for _, size := range wrongSizes {
				m := simple(count)
				descAt(&m, at).Size = size
				isWrong(t, m, size, count, at)
			}
		}
	}
	m := simple(0)
	m.Config = api.Desc{Media: "m", Digest: abcSum}
	for _, size := range sizes {
		m.Config.Size = size
		prints(t, m, `{"config":{"digest":"`+abc+`","mediaType":"m","size":`+strconv.FormatUint(uint64(size), 10)+`},"layers":[],"schemaVersion":2}`)
	}
}

// P13.2: digests of each byte at each place.
func TestPrintOfDigests(t *testing.T) {
	for k := range 256 {
		m := simple(1)
		for at := range 32 {
			m.Config.Digest[at] = byte(k + at)
			m.Layers[0].Digest[at] = byte(k - at)
		}
		prints(t, m, object(`"config":`+sorted(m.Config), `"layers":[`+sorted(m.Layers[0])+"]", schema))
		roundTrip(t, m)
	}
}

// P13.2: what would be printed has 5000 values at most.
func TestPrintOfMuch(t *testing.T) {
	for _, layers := range []int{0, 1, 2, 10, 59, 60} {
		most := 5000 - 4 - 1 - 4*layers
		for _, values := range []int{3, 100, most - 1, most} {
			agreesAbout(t, wide(layers, values))
		}
		for _, values := range []int{most + 1, most + 2, most + 4, 4995, 4996, 4999, 5000, 5001, 6000} {
			if values > most {
				isWrong(t, wide(layers, values), layers, values)
			}
		}
	}
	b, ok := meta.Print(wide(0, 4995))
	if l, err := json.Parse(b); !ok || err != api.OK || len(l) != 5000 {
		t.Error(len(l), ok, err)
	}
	// As deep as may be.
	roundTrip(t, rested(60, of(`{"schemaVersion":2,"x":`+deep(48)+`}`)))
	agreesAbout(t, rested(60, of(`{"schemaVersion":2,"x":`+deep(48)+`}`)))
	isWrong(t, rested(0, slices.Concat(row{{Kind: 6, Count: 2}, {Kind: 3, Key: "schemaVersion", Text: "2"}, {Kind: 5, Key: "x", Count: 1}}, slices.Repeat(row{{Kind: 5, Count: 1}}, 48), row{{}})))
}

// P13.2: several things that are wrong at once, and each alone.
func TestPrintOfMixes(t *testing.T) {
	rests := []row{nil, of("[]"), of("{}"), of(object(schema)), of(`{"schemaVersion":1}`), of(`{"a":1,"schemaVersion":2}`), of(`{"schemaVersion":2,"a":1}`), of(`{"config":1,"schemaVersion":2}`), of(`{"layers":[],"schemaVersion":2}`), of(`{"config":` + sorted(some(0)) + `,"layers":[],"schemaVersion":2}`), {{Kind: 6, Count: 1}}, wide(0, 4755).Rest, wide(0, 4756).Rest}
	counts := []int{0, 1, 60, 61}
	medias := [][2]string{{"", "m"}, {"m", "\xff"}, {"\xff", "m"}, {"\xff", "\xff"}}
	for _, rest := range rests {
		for _, count := range counts {
			for _, media := range medias {
				for _, size := range []int{-1, 0, 1<<62 + 1} {
					m := rested(count, rest)
					m.Config.Media = media[0]
					descAt(&m, count-1).Media = media[1]
					descAt(&m, min(0, count-1)).Size = size
					agreesAbout(t, m)
				}
			}
		}
	}
}

// P13.4: what is parsed is right, and printed in one way, however it was written.
func TestOneWay(t *testing.T) {
	m := rich(3)
	want, _ := meta.Print(m)
	members := []string{`"config":` + desc(some(0)), `"layers":` + descs(somes(3)), schema}
	for k, v := range values {
		members = append(members, quoted(string(rune('a'+k)))+":"+v)
	}
	for turn := range members {
		s := object(slices.Concat(members[turn:], members[:turn])...)
		for _, s := range []string{s, strings.ReplaceAll(s, ",", " ,\n\t"), strings.ReplaceAll(s, `"schema`, `"\u0073chema`)} {
			got, err := meta.Parse([]byte(s))
			b, ok := meta.Print(got)
			if err != api.OK || !meta.Right(got) || !ok || string(b) != string(want) {
				t.Errorf("%s: %v, %t, %s", brief(s), err, ok, brief(string(b)))
			}
		}
	}
}

// mark is what no Rest of what is answered has.
var mark = api.Value{Kind: 9, Key: "z", Text: "z", Count: 9}

// scribble changes all that m has, its spare room too.
func scribble(m api.Manifest) {
	for k := range m.Layers[:cap(m.Layers)] {
		m.Layers[:cap(m.Layers)][k] = api.Desc{Media: "\xff", Size: -9}
	}
	for k := range m.Rest[:cap(m.Rest)] {
		m.Rest[:cap(m.Rest)][k] = mark
	}
}

// P13.3: what is answered is new memory, and b is neither kept nor changed, nor looked at behind its end.
func TestParseKeepsNothing(t *testing.T) {
	for _, s := range []string{whole(simple(0)), whole(simple(1)), whole(rich(0)), whole(rich(5)), whole(rich(60)), whole(simple(61)), "x", whole(wide(3, 4000))} {
		want, wantErr := meta.Parse([]byte(s))
		want = apart(want)
		all := []byte(s + "}x]\"" + strings.Repeat(" ", 64))
		b := all[:len(s)]
		m, err := meta.Parse(b)
		other, _ := meta.Parse(b)
		if string(all) != s+"}x]\""+strings.Repeat(" ", 64) {
			t.Errorf("%s: what was handed in is changed", brief(s))
		}
		for k := range all {
			all[k] = '7'
		}
		if err != wantErr || !same(m, want) {
			t.Errorf("%s: %s, %v, when b is changed", brief(s), brief(m), err)
		}
		// The lists of one answer are apart, too.
		layers := slices.Clone(m.Layers)
		scribble(api.Manifest{Rest: m.Rest})
		if !slices.Equal(m.Layers, layers) {
			t.Errorf("%s: Layers have changed", brief(s))
		}
		scribble(m)
		if !same(other, want) {
			t.Errorf("%s: two answers are shared", brief(s))
		}
		if again, err := meta.Parse([]byte(s)); err != wantErr || !same(again, want) {
			t.Errorf("%s: %s, %v, asked again", brief(s), brief(again), err)
		}
	}
}

// roomy is m with spare room that is full, and the whole of that.
func roomy(m api.Manifest) (in, all api.Manifest) {
	all = m
	all.Layers = slices.Concat(m.Layers, []api.Desc{{Media: "\xff", Size: -1}, some(99), some(98), {}})
	all.Rest = slices.Concat(m.Rest, row{mark, {Key: "behind"}, mark, mark, mark, mark, mark, mark, mark, mark, mark, mark})
	in = all
	in.Layers, in.Rest = all.Layers[:len(m.Layers)], all.Rest[:len(m.Rest)]
	return in, all
}

// P13.3: m is neither kept nor changed by Right and Print, nor looked at behind its ends, and what is printed is new memory.
func TestPrintKeepsNothing(t *testing.T) {
	unsorted := rested(2, of(`{"x":{"b":1,"a":2},"schemaVersion":2}`))
	bad := simple(3)
	bad.Layers[1].Media = "a\xff"
	taken := rested(1, of(`{"config":1,"schemaVersion":2}`))
	for _, m := range []api.Manifest{simple(0), simple(1), rich(0), rich(3), rich(60), rich(61), wide(60, 4755), wide(60, 4756), unsorted, bad, taken, {}} {
		want, wantOk := meta.Print(apart(m))
		in, all := roomy(m)
		kept := apart(all)
		b, ok := meta.Print(in)
		right := meta.Right(in)
		other, _ := meta.Print(in)
		if !same(all, kept) {
			t.Errorf("%s: what was handed in is %s, not %s", brief(m), brief(all), brief(kept))
		}
		if string(b) != string(want) || ok != wantOk || right != wantOk {
			t.Errorf("%s: %s, %t, %t", brief(m), brief(string(b)), ok, right)
		}
		scribble(all)
		if string(b) != string(want) {
			t.Errorf("%s: what was handed in is shared", brief(m))
		}
		for k := range b[:cap(b)] {
			b[:cap(b)][k] = '7'
		}
		if string(other) != string(want) {
			t.Errorf("%s: two answers are shared", brief(m))
		}
		if again, ok := meta.Print(m); string(again) != string(want) || ok != wantOk {
			t.Errorf("%s: %s, %t, asked again", brief(m), brief(string(again)), ok)
		}
	}
}

// W2: what was asked before does not matter.
func TestTwiceTheSame(t *testing.T) {
	in := []string{whole(rich(4)), "x", whole(simple(61)), with("1", "[]"), whole(simple(0)), `{"a":1,"a":1}`, whole(rich(60))}
	for range 3 {
		for _, s := range in {
			agreesOn(t, s)
			m, _ := meta.Parse([]byte(s))
			agreesAbout(t, m)
			isWrong(t, api.Manifest{})
		}
	}
}

// W1: what is very much, very deep, or very long.
func TestMuch(t *testing.T) {
	const much = 1 << 18
	nested := append(row{{Kind: 6, Count: 2}, {Kind: 3, Key: "schemaVersion", Text: "2"}, {Kind: 5, Key: "x", Count: 1}}, slices.Repeat(row{{Kind: 5, Count: 1}}, much)...)
	nested[len(nested)-1].Count = 0
	isWrong(t, rested(1, nested))
	isWrong(t, rested(1, nested[:much]))
	isWrong(t, wide(1, much))
	m := simple(1)
	m.Layers = make([]api.Desc, much)
	isWrong(t, m)
	fails(t, with(desc(some(0)), list(slices.Repeat([]string{"1"}, much)...)), api.ErrFull)
	fails(t, deep(much), api.ErrFull)
	fails(t, strings.Repeat(" ", much), api.ErrForm)
	m = simple(2)
	m.Config.Media = strings.Repeat("\u00e4\n", much)
	m.Layers[1].Media = strings.Repeat("\U0001f600", much)
	m.Rest = of(object(quoted(strings.Repeat("k", much))+":"+quoted(strings.Repeat("v", much)), schema))
	roundTrip(t, m)
	parses(t, whole(m), m)
	m.Layers[1].Media += "\xff"
	isWrong(t, m)
}

// P13.1, P13.4, W1: any bytes are parsed as other hands parse them.
func FuzzParse(f *testing.F) {
	for _, s := range []string{whole(simple(1)), whole(rich(2)), with(desc(some(0)), "[]"), with("1", "[]"), whole(simple(61)), "{", object(schema), with(desc(some(0)), "{}", `"x":[{"b":1,"a":2}]`)} {
		f.Add([]byte(s))
	}
	f.Fuzz(func(t *testing.T, b []byte) { agreesOn(t, string(b)) })
}

// P13.2, P13.4, W1: any manifests are printed as other hands print them.
func FuzzPrint(f *testing.F) {
	f.Add([]byte(object(schema)), "m", "n", 3, 4, []byte{1, 2, 3}, 2, 0)
	f.Add([]byte(`{"x":1,"schemaVersion":2}`), "m", "\xff", 0, 1<<62, []byte{}, 60, 1)
	f.Add([]byte(`{"config":1,"schemaVersion":2}`), "", "\u00e4", -1, 1<<62+1, []byte{255}, 61, 2)
	f.Fuzz(func(t *testing.T, b []byte, media, other string, size, otherSize int, digest []byte, count, cut int) {
		l, _ := json.Parse(b)
		m := api.Manifest{Config: api.Desc{Media: media, Size: size}, Rest: l}
		copy(m.Config.Digest[:], digest)
		for range min(max(count, 0), 70) {
			m.Layers = append(m.Layers, api.Desc{Media: other, Digest: m.Config.Digest, Size: otherSize})
		}
		agreesAbout(t, m)
		m.Rest = json.Sort(l)
		agreesAbout(t, m)
		m.Rest = m.Rest[:min(max(cut, 0), len(m.Rest))]
		agreesAbout(t, m)
	})
}
