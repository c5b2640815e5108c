package config_test

import (
	"fmt"
	"slices"
	"strings"
	"testing"

	"onionskin/api"
	"onionskin/config"
	"onionskin/json"
)

// with is told with another Rest: that of the entry at that place, or, at -1, the config's.
func with(layers, at int, rest row) api.Config {
	c := told(layers)
	*restAt(&c, at) = rest
	return c
}

// restAt is where the Rest of an entry stands, or, at -1, the config's.
func restAt(c *api.Config, at int) *row {
	if at < 0 {
		return &c.Rest
	}
	return &c.History[at].Rest
}

// restPlaces are the places of a Rest that are tried: the config's, and those of the first, middle and last entries.
var restPlaces = [][2]int{{0, -1}, {1, -1}, {60, -1}, {1, 0}, {2, 0}, {2, 1}, {3, 1}, {60, 0}, {60, 30}, {60, 59}}

// P14.3: what is printed, written down.
func TestPrint(t *testing.T) {
	const empty = `{"rootfs":{"diff_ids":[],"type":"layers"}}`
	prints(t, api.Config{Rest: row{{Kind: api.JsonObject}}}, empty)
	prints(t, api.Config{DiffIds: []api.Digest{}, History: []api.Hist{}, Rest: row{{Kind: api.JsonObject}}}, empty)
	prints(t, api.Config{DiffIds: []api.Digest{abcSum}, Rest: bare()}, `{"rootfs":{"diff_ids":["`+abc+`"],"type":"layers"}}`)
	prints(t, api.Config{DiffIds: []api.Digest{abcSum, {}, abcSum}, Rest: bare()}, `{"rootfs":{"diff_ids":["`+abc+`","`+zeros+`","`+abc+`"],"type":"layers"}}`)
	prints(t, api.Config{History: []api.Hist{{Empty: true, Rest: bare()}}, Rest: bare()}, `{"history":[{"empty_layer":true}],"rootfs":{"diff_ids":[],"type":"layers"}}`)
	prints(t, api.Config{DiffIds: []api.Digest{{}}, History: []api.Hist{{Rest: bare()}}, Rest: bare()}, `{"history":[{}],"rootfs":{"diff_ids":["`+zeros+`"],"type":"layers"}}`)
	rest := row{{Kind: 6, Count: 7}, {Key: ""}, {Kind: 4, Key: "a", Text: "\"\n"}, {Kind: 2, Key: "histories"}, {Kind: 5, Key: "i", Count: 1}, {Kind: 3, Text: "-0.50"}, {Kind: 6, Key: "root"}, {Kind: 3, Key: "s", Text: "2"}, {Kind: 1, Key: "\u00e4"}}
	own := row{{Kind: 6, Count: 4}, {Kind: 3, Key: "a", Text: "1"}, {Key: "d"}, {Kind: 5, Key: "empty"}, {Kind: 2, Key: "f"}}
	prints(t, api.Config{DiffIds: []api.Digest{abcSum, {}}, Rest: rest, History: []api.Hist{{By: "x", Rest: own}, {By: "\"\n\u00e4", Empty: true, Rest: own}, {Empty: true, Rest: own}, {Rest: own}}},
		`{"":null,"a":"\"\n","histories":false,"history":[{"a":1,"created_by":"x","d":null,"empty":[],"f":false},{"a":1,"created_by":"\"\n`+"\u00e4"+`","d":null,"empty":[],"empty_layer":true,"f":false},{"a":1,"d":null,"empty":[],"empty_layer":true,"f":false},{"a":1,"d":null,"empty":[],"f":false}],"i":[-0.50],"root":{},"rootfs":{"diff_ids":["`+abc+`","`+zeros+"\"],\"type\":\"layers\"},\"s\":2,\"\u00e4\":true}")
}

// P14.3, P14.5: so many layers, with and without a history, without other members and with such of each kind.
func TestPrintOfLayers(t *testing.T) {
	for count := range 61 {
		c := simple(count)
		prints(t, c, object(printedRoot(c.DiffIds)))
		c = told(count)
		var history []string
		for k := range count {
			history = append(history, fmt.Sprintf(`{"created_by":"by %d"}`, k))
		}
		if count > 0 {
			prints(t, c, object(`"history":`+list(history...), printedRoot(c.DiffIds)))
		}
		agreesAbout(t, rested(count))
		if count%10 < 2 {
			agreesAbout(t, rich(count))
		}
	}
	for _, count := range []int{61, 62, 120, 200, 201, 1000, 4997, 100000} {
		isWrong(t, simple(count), count)
		isWrong(t, told(count), count)
		isWrong(t, rested(min(count, 1000)), count)
		isWrong(t, api.Config{DiffIds: make([]api.Digest, count), History: told(60).History, Rest: bare()}, count)
		isWrong(t, api.Config{DiffIds: make([]api.Digest, count), History: []api.Hist{{Empty: true, Rest: bare()}}, Rest: bare()}, count)
	}
}

// wrongRows are no right rows, each in another way.
func wrongRows() []row {
	first := api.Value{Kind: 3, Key: "a", Text: "2"}
	l := []row{
		nil, {}, make(row, 0, 5), {first}, // nothing, or no object
		{{Kind: 6, Count: 1}, first, first}, {{Kind: 6, Count: 1}, first, {}}, {{Kind: 6}, first}, {{Kind: 6}, {Kind: 6}}, // more than one
		{{Kind: 6, Count: 2}, first}, {{Kind: 6, Count: 1}}, {{Kind: 6, Count: 2}, first, {Kind: 5, Key: "x", Count: 1}}, {{Kind: 6, Count: api.MaxInt}, first}, // not all there
		{{Kind: 6, Count: -1}, first}, {{Kind: 6, Count: api.MinInt}}, {{Kind: 6, Count: 2}, first, {Kind: 5, Key: "x", Count: -1}},
		{{Kind: 6, Count: 2}, first, first}, {{Kind: 6, Count: 3}, first, {Key: "b"}, {Key: "b"}}, {{Kind: 6, Count: 2}, first, {Kind: 6, Key: "x", Count: 2}, {}, {}}, // Keys twice
		{{Kind: 6, Key: "a"}}, {{Kind: 6, Key: "x", Count: 1}, first}, {{Kind: 6, Text: "a", Count: 1}, first}, {{Kind: 6, Text: "a"}}, {{Kind: 6, Count: 2}, first, {Kind: 5, Key: "x", Count: 1}, {Key: "y"}}, // Keys and Texts where none may be
		{{Kind: 6, Count: 2}, first, {Key: "x", Text: "y"}}, {{Kind: 6, Count: 2}, first, {Key: "x", Kind: 1, Count: 1}}, {{Kind: 6, Count: 2}, first, {Key: "x", Kind: 3, Text: "01"}}, {{Kind: 6, Count: 2}, first, {Key: "x", Kind: 3}},
		{{Kind: 6, Count: 2}, first, {Key: "x", Kind: 7}}, {{Kind: 6, Count: 2}, first, {Key: "x", Kind: -1}}, {{Kind: 7, Count: 1}, first}, {{Kind: 1<<32 + 6, Count: 1}, first},
		slices.Concat(row{{Kind: 6, Count: 1}}, row{{Kind: 5, Key: "x", Count: 1}}, slices.Repeat(row{{Kind: 5, Count: 1}}, 48), row{{}}), // too deep
		wide(5001), wide(100000), // too many
	}
	for _, s := range broken {
		l = append(l, row{{Kind: 6, Count: 2}, first, {Kind: 4, Key: "x", Text: s}}, row{{Kind: 6, Count: 2}, first, {Kind: 4, Key: "x" + s}}, row{{Kind: 6, Count: 2}, first, {Kind: 5, Key: "x", Count: 1}, {Kind: 4, Text: s}})
	}
	return l
}

// P14.3: each Rest must be a right row, and an object.
func TestPrintOfWrongRows(t *testing.T) {
	l := wrongRows()
	for _, v := range values {
		if rest := of(v); rest[0].Kind != api.JsonObject {
			l = append(l, rest)
		}
	}
	for _, v := range []string{`["rootfs"]`, "[{}]", `[{"a":1}]`, `"{}"`} {
		l = append(l, of(v))
	}
	for _, rest := range l {
		for _, place := range restPlaces {
			isWrong(t, with(place[0], place[1], rest), place)
		}
		agreesAbout(t, with(2, -1, rest))
		agreesAbout(t, with(2, 1, rest))
		// An entry without a layer, and one that has By alone or nothing.
		c := with(3, 1, rest)
		c.History[1].Empty = true
		c.DiffIds = c.DiffIds[:2]
		isWrong(t, c)
		c.History[1].By = ""
		isWrong(t, c)
		c.History[1].Empty = false
		c.DiffIds = sums(3)
		isWrong(t, c)
	}
	isWrong(t, api.Config{})
	isWrong(t, api.Config{DiffIds: sums(1), History: make([]api.Hist, 1), Rest: bare()})
	isWrong(t, api.Config{DiffIds: sums(3), History: make([]api.Hist, 3), Rest: bare()})
	// Rows that would be right together.
	c := told(2)
	c.History[0].Rest, c.History[1].Rest = row{{Kind: 6}, {Kind: 6}}, nil
	isWrong(t, c)
	c.History[0].Rest, c.History[1].Rest = row{{Kind: 6, Count: 1}}, row{{Key: "a"}, {Kind: 6}}
	isWrong(t, c)
}

// P14.3: a Rest that has a member that it may not have, and one that has it deeper, or another's.
func TestPrintOfTakenKeys(t *testing.T) {
	for _, v := range append(slices.Clone(values), `{"type":"layers","diff_ids":[]}`, `{"diff_ids":[],"type":"layers"}`, `[{"empty_layer":true}]`) {
		for _, place := range restPlaces {
			own, others := []string{"rootfs", "history"}, []string{"created_by", "empty_layer", "type", "diff_ids"}
			if place[1] >= 0 {
				own, others = []string{"created_by", "empty_layer"}, []string{"rootfs", "history", "type", "diff_ids"}
			}
			for _, key := range own {
				isWrong(t, with(place[0], place[1], json.Sort(of(object(quoted(key)+":"+v)))), place, key, v)
				isWrong(t, with(place[0], place[1], json.Sort(of(object(`"a":1`, quoted(key)+":"+v, `"m":1`, `"z":1`)))), place, key, v)
			}
			isWrong(t, with(place[0], place[1], json.Sort(of(object(quoted(own[0])+":"+v, quoted(own[1])+":"+v)))), place, v)
			if place[0] > 3 {
				continue
			}
			for _, key := range others {
				agreesAbout(t, with(place[0], place[1], json.Sort(of(object(quoted(key)+":"+v)))))
				roundTrip(t, with(place[0], place[1], json.Sort(of(object(quoted(key)+":"+v)))))
			}
			roundTrip(t, with(place[0], place[1], json.Sort(of(object(`"x":{"`+own[0]+`":`+v+`}`, `"y":[{"`+own[1]+`":`+v+`}]`)))))
		}
	}
	// Also where there is no history, or By and Empty say the same.
	c := simple(1)
	c.Rest = of(`{"history":[]}`)
	isWrong(t, c)
	c.Rest = of(`{"rootfs":{"diff_ids":[],"type":"layers"}}`)
	isWrong(t, c)
	c = told(2)
	c.History[0].By, c.History[0].Rest = "", of(`{"created_by":"x"}`)
	isWrong(t, c)
	c.History[0].Rest = of(`{"created_by":""}`)
	isWrong(t, c)
	c.History[0].Rest = of(`{"empty_layer":false}`)
	isWrong(t, c)
	c.History[0].Rest, c.History[0].Empty, c.DiffIds = of(`{"empty_layer":true}`), true, sums(1)
	isWrong(t, c)
	c.History[0].Rest, c.History[0].By = of(`{"created_by":"by"}`), "by"
	isWrong(t, c)
}

// P14.3: each Rest must be sorted, in all depths.
func TestPrintOfUnsorted(t *testing.T) {
	for _, s := range []string{
		`{"b":1,"a":2}`, `{"a":1,"":2}`, `{"a":1,"c":2,"b":3}`, `{"x":{"b":1,"a":2}}`, `{"x":[{"b":1,"a":2}]}`, `{"a":{"b":{"c":{"e":1,"d":2}}}}`, `{"x":[1,[2,[{"a":1},{"b":1,"":2}]]]}`,
		`{"a":1,"A":2}`, "{\"\U0001f600\":1,\"\uffff\":2}", `{"x":{"aa":1,"a":2}}`, `{"z":1,"m":2}`,
	} {
		for _, place := range restPlaces {
			isWrong(t, with(place[0], place[1], of(s)), place, s)
			roundTrip(t, with(place[0], place[1], json.Sort(of(s))))
		}
	}
	for _, s := range []string{`{"":1,"a":2}`, `{"x":["b","a",{"b":1},{"a":2}]}`, `{"x":{"a":{"b":1},"b":{"a":1}}}`, "{\"\u00e4\":1,\"\uffff\":2,\"\U0001f600\":3}"} {
		for _, place := range restPlaces {
			roundTrip(t, with(place[0], place[1], of(s)))
		}
	}
}

// P14.3: By that is right UTF-8 and such that is not, of each entry, Empty or not.
func TestPrintOfBy(t *testing.T) {
	for _, text := range texts {
		for _, place := range restPlaces {
			if place[1] < 0 {
				continue
			}
			c := told(place[0])
			c.History[place[1]].By = text
			agreesAbout(t, c)
			c.History = slices.Insert(c.History, place[1], api.Hist{By: text, Empty: true, Rest: bare()})
			agreesAbout(t, c)
		}
	}
	for _, text := range broken {
		for _, place := range restPlaces {
			if place[1] < 0 {
				continue
			}
			for _, by := range []string{text, "ab" + text, text + "\x00"} {
				c := told(place[0])
				c.History[place[1]].By = by
				isWrong(t, c, by, place)
				c.History[place[1]].By = "x"
				c.History = slices.Insert(c.History, place[1], api.Hist{By: by, Empty: true, Rest: bare()})
				isWrong(t, c, by, place)
			}
		}
	}
}

// P14.3: By of no bytes makes no created_by, and Empty that is false no empty_layer.
func TestPrintOfDefaults(t *testing.T) {
	for _, v := range []string{`{}`, `{"a":1}`, `{"created":1,"e":2,"z":3}`} {
		for _, by := range []string{"", "x", "\x00"} {
			for _, empty := range []bool{false, true} {
				c := api.Config{History: []api.Hist{{By: by, Empty: empty, Rest: of(v)}}, Rest: bare()}
				if !empty {
					c.DiffIds = sums(1)
				}
				b, ok := config.Print(c)
				if !ok || strings.Contains(string(b), "created_by") != (by != "") || strings.Contains(string(b), "empty_layer") != empty || strings.Contains(string(b), "false") {
					t.Errorf("%s: %s, %t", brief(c), b, ok)
				}
				agreesAbout(t, c)
			}
		}
	}
}

// P14.3: digests of each byte at each place.
func TestPrintOfDigests(t *testing.T) {
	for k := range 256 {
		c := simple(2)
		for at := range 32 {
			c.DiffIds[0][at], c.DiffIds[1][at] = byte(k+at), byte(k-at)
		}
		prints(t, c, object(printedRoot(c.DiffIds)))
		roundTrip(t, c)
	}
}

// P14.3: entries that are not as many as digests without the Empty ones, and 200 entries and more.
func TestPrintOfCounts(t *testing.T) {
	for _, layers := range []int{0, 1, 2, 3, 59, 60, 61} {
		for _, about := range []int{-2, -1, 0, 1, 2, 140} {
			for _, empties := range []int{0, 1, 2, 139, 140, 141, 198, 199, 200, 201, 1000} {
				if layers+about < 0 {
					continue
				}
				c := api.Config{DiffIds: sums(layers), Rest: bare()}
				for k := range layers + about {
					c.History = append(c.History, api.Hist{By: "x"[:k%2], Rest: bare()})
				}
				for k := range empties {
					c.History = slices.Insert(c.History, len(c.History)*k/empties, api.Hist{By: "x"[:k%3/2], Empty: true, Rest: bare()})
				}
				fine := (about == 0 || len(c.History) == 0) && layers <= 60 && len(c.History) <= 200
				if config.Right(c) != fine {
					t.Errorf("%d layers, %d entries, %d empty: right %t", layers, layers+about+empties, empties, !fine)
				}
				agreesAbout(t, c, layers, about, empties)
			}
		}
	}
	// A history that has none is none, however many layers there are.
	for _, layers := range []int{0, 1, 60} {
		c := simple(layers)
		c.History = []api.Hist{}
		prints(t, c, object(printedRoot(c.DiffIds)))
	}
}

// P14.3: what would be printed has 5000 values at most.
func TestPrintOfWide(t *testing.T) {
	for _, layers := range []int{0, 1, 2, 60} {
		for _, c := range []api.Config{simple(layers), told(layers), rested(layers)} {
			b, ok := config.Print(c)
			size := len(of(string(b)))
			for at := -1; at < len(c.History); at += 1 + len(c.History)/2 {
				most := 5000 - size + len(*restAt(&c, at))
				for _, values := range []int{most - 1, most, most + 1, 5000} {
					c := apart(c)
					*restAt(&c, at) = wide(values)
					if !ok || config.Right(c) != (values <= most) {
						t.Errorf("%d layers, %d of %d entries, %d values, not %d: right %t", layers, at, len(c.History), values, most, values > most)
					}
					if layers == 2 && values < 5000 {
						agreesAbout(t, c, layers, values, at)
					}
				}
			}
		}
	}
	// What By and Empty bring are values, too.
	for _, by := range []string{"", "x"} {
		for _, empty := range []bool{false, true} {
			for values := 4988; values < 4993; values++ {
				c := told(1)
				c.History = append(c.History, api.Hist{By: by, Empty: empty, Rest: wide(values)})
				if !empty {
					c.DiffIds = sums(2)
				}
				agreesAbout(t, c, by, empty, values)
			}
		}
	}
	b, ok := config.Print(api.Config{Rest: wide(4997)})
	if l, err := json.Parse(b); !ok || err != api.OK || len(l) != 5000 {
		t.Error(len(l), ok, err)
	}
	isWrong(t, api.Config{Rest: wide(4998)})
}

// P14.3: what would be printed is in 49 others at most.
func TestPrintOfDeep(t *testing.T) {
	for _, place := range restPlaces {
		for depth := range 52 {
			most := 48
			if place[1] >= 0 {
				most = 46
			}
			nested := slices.Concat(row{{Kind: 6, Count: 1}, {Kind: 5, Key: "x", Count: 1}}, slices.Repeat(row{{Kind: 5, Count: 1}}, depth), row{{}})
			c := with(place[0], place[1], nested)
			if config.Right(c) != (depth+1 <= most) {
				t.Error(place, depth)
			}
			if depth > 40 {
				agreesAbout(t, c, place, depth)
			}
		}
	}
}

// P14.3: several things that are wrong at once, and each alone.
func TestPrintOfMixes(t *testing.T) {
	rests := []row{nil, of("[]"), bare(), of(`{"a":1,"b":2}`), of(`{"b":1,"a":2}`), of(`{"history":[]}`), of(`{"rootfs":{"diff_ids":[],"type":"layers"}}`), of(`{"created_by":"x"}`), of(`{"empty_layer":true}`), {{Kind: 6, Count: 1}}, of(`{"x":` + deep(47) + `}`)}
	for _, rest := range rests {
		for _, own := range rests {
			for _, by := range []string{"", "x", "\xff"} {
				for _, empty := range []bool{false, true} {
					for _, layers := range []int{0, 1, 2, 61} {
						c := simple(layers)
						c.Rest = rest
						c.History = []api.Hist{{By: by, Empty: empty, Rest: own}, {Empty: true, Rest: bare()}}
						agreesAbout(t, c)
						c.History = append(c.History[1:], api.Hist{Rest: bare()}, c.History[0])
						agreesAbout(t, c)
						c.History = nil
						agreesAbout(t, c)
					}
				}
			}
		}
	}
}

// P14.5: what is parsed is right, and printed in one way, however it was written.
func TestOneWay(t *testing.T) {
	c := rich(3)
	want, _ := config.Print(c)
	var members []string
	for k, v := range values {
		members = append(members, quoted(string(rune('a'+k)))+":"+v)
	}
	for _, full := range []bool{false, true} {
		members := append(slices.Clone(members), rootOf(c.DiffIds), `"history":`+list(entries(c.History, full)...))
		for turn := range members {
			s := object(slices.Concat(members[turn:], members[:turn])...)
			for _, s := range []string{s, strings.ReplaceAll(s, ",", " ,\n\t"), strings.ReplaceAll(s, `"layers`, `"\u006cayers`)} {
				got, err := config.Parse([]byte(s))
				b, ok := config.Print(got)
				if err != api.OK || !config.Right(got) || !ok || string(b) != string(want) {
					t.Errorf("%s: %v, %t, %s", brief(s), err, ok, brief(string(b)))
				}
			}
		}
	}
}
