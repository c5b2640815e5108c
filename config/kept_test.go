package config_test

import (
	"slices"
	"strings"
	"testing"

	"onionskin/api"
	"onionskin/config"
	"onionskin/json"
)

// mark is what no Rest of what is answered has.
var mark = api.Value{Kind: 9, Key: "z", Text: "z", Count: 9}

// spoil changes all values of l, its spare room too.
func spoil(l row) {
	for k := range l[:cap(l)] {
		l[:cap(l)][k] = mark
	}
}

// scribble changes all that c has, its spare room too.
func scribble(c api.Config) {
	for k := range c.DiffIds[:cap(c.DiffIds)] {
		c.DiffIds[:cap(c.DiffIds)][k][31]++
	}
	for _, h := range c.History[:cap(c.History)] {
		spoil(h.Rest)
	}
	for k := range c.History[:cap(c.History)] {
		c.History[:cap(c.History)][k] = api.Hist{By: "\xff", Rest: row{mark}}
	}
	spoil(c.Rest)
}

// P14.4: what is answered is new memory, and b is neither kept nor changed, nor looked at behind its end.
func TestParseKeepsNothing(t *testing.T) {
	wideOne := simple(3)
	wideOne.Rest = wide(4000)
	for _, s := range []string{whole(simple(0), false), whole(simple(1), true), whole(told(1), false), whole(rich(0), true), whole(rich(5), true), whole(rested(60), false), whole(simple(61), false), "x", whole(wideOne, false)} {
		const behind = "}x]\""
		want, wantErr := config.Parse([]byte(s))
		want = apart(want)
		all := []byte(s + behind + strings.Repeat(" ", 64))
		b := all[:len(s)]
		c, err := config.Parse(b)
		other, _ := config.Parse(b)
		if string(all) != s+behind+strings.Repeat(" ", 64) {
			t.Errorf("%s: what was handed in is changed", brief(s))
		}
		for k := range all {
			all[k] = '7'
		}
		if err != wantErr || !same(c, want) {
			t.Errorf("%s: %s, %v, when b is changed", brief(s), brief(c), err)
		}
		scribble(c)
		if !same(other, want) {
			t.Errorf("%s: two answers are shared", brief(s))
		}
		if again, err := config.Parse([]byte(s)); err != wantErr || !same(again, want) {
			t.Errorf("%s: %s, %v, asked again", brief(s), brief(again), err)
		}
	}
}

// P14.4: the lists of one answer are apart.
func TestParseSharesNothing(t *testing.T) {
	for _, whole := range []string{whole(rich(5), false), whole(told(3), true), whole(rested(60), false)} {
		want, _ := config.Parse([]byte(whole))
		for at := range len(want.History) + 2 {
			c, _ := config.Parse([]byte(whole))
			kept := apart(c)
			// Beside the lists alone, what stands within them is kept.
			switch at {
			case 0:
				spoil(c.Rest)
				c.Rest = kept.Rest
			case 1:
				scribble(api.Config{DiffIds: c.DiffIds})
				c.DiffIds = kept.DiffIds
			default:
				spoil(c.History[at-2].Rest)
				c.History[at-2].Rest = kept.History[at-2].Rest
			}
			if !same(c, want) {
				t.Errorf("%s: the list %d is shared", brief(whole), at)
			}
		}
	}
}

// roomyRow is l with spare room that is full, and the whole of that.
func roomyRow(l row) (in, all row) {
	all = slices.Concat(l, row{mark, {Key: "behind"}, mark, mark, mark, mark, mark, mark, mark, mark, mark, mark})
	return all[:len(l)], all
}

// roomy is c with spare room that is full, and the whole of that.
func roomy(c api.Config) (in, all api.Config) {
	c = apart(c)
	in.Rest, all.Rest = roomyRow(c.Rest)
	all.DiffIds = slices.Concat(c.DiffIds, []api.Digest{{9}, sum(99), {}, {}})
	in.DiffIds = all.DiffIds[:len(c.DiffIds)]
	all.History = slices.Concat(c.History, []api.Hist{{By: "\xff"}, {}, {Empty: true, Rest: row{mark}}, {}})
	in.History = all.History[:len(c.History)]
	for k, h := range in.History {
		in.History[k].Rest, _ = roomyRow(h.Rest)
	}
	return in, all
}

// open is c with each Rest of an entry up to the end of its room.
func open(c api.Config) api.Config {
	c.History = slices.Clone(c.History)
	for k, h := range c.History {
		c.History[k].Rest = h.Rest[:cap(h.Rest)]
	}
	return c
}

// P14.4: c is neither kept nor changed by Right and Print, nor looked at behind its ends, and what is printed is new memory.
func TestPrintKeepsNothing(t *testing.T) {
	unsorted := told(2)
	unsorted.History[1].Rest = of(`{"x":{"b":1,"a":2},"s":2}`)
	bad := told(3)
	bad.History[1].By = "a\xff"
	taken := told(1)
	taken.Rest = of(`{"rootfs":1}`)
	full, over := simple(60), simple(60)
	full.Rest, over.Rest = wide(5000-63), wide(5000-62)
	for _, c := range []api.Config{simple(0), simple(1), told(1), rich(0), rich(3), rested(60), rested(61), full, over, unsorted, bad, taken, {}} {
		want, wantOk := config.Print(apart(c))
		in, all := roomy(c)
		kept := apart(open(all))
		b, ok := config.Print(in)
		right := config.Right(in)
		n := config.Layers(in.History)
		other, _ := config.Print(in)
		if !same(open(all), kept) {
			t.Errorf("%s: what was handed in is %s, not %s", brief(c), brief(all), brief(kept))
		}
		if string(b) != string(want) || ok != wantOk || right != wantOk || n != modelLayers(c.History) {
			t.Errorf("%s: %s, %t, %t, %d", brief(c), brief(string(b)), ok, right, n)
		}
		scribble(all)
		if string(b) != string(want) {
			t.Errorf("%s: what was handed in is shared", brief(c))
		}
		for k := range b[:cap(b)] {
			b[:cap(b)][k] = '7'
		}
		if string(other) != string(want) {
			t.Errorf("%s: two answers are shared", brief(c))
		}
		if again, ok := config.Print(c); string(again) != string(want) || ok != wantOk {
			t.Errorf("%s: %s, %t, asked again", brief(c), brief(string(again)), ok)
		}
	}
}

// P14.4: lists of what is handed in may be one.
func TestPrintOfShared(t *testing.T) {
	rest := others()
	c := simple(2)
	c.Rest = rest
	c.History = []api.Hist{{By: "x", Rest: rest}, {Empty: true, Rest: rest}, {Rest: rest}}
	kept := apart(c)
	agreesAbout(t, c)
	if !same(c, kept) {
		t.Errorf("%s is changed: %s", brief(kept), brief(c))
	}
}

// W2: what was asked before does not matter.
func TestTwiceTheSame(t *testing.T) {
	in := []string{whole(rich(4), true), "x", whole(simple(61), false), object(rootOf(nil), `"history":[1]`), whole(simple(0), false), `{"a":1,"a":1}`, whole(rested(60), false)}
	for range 3 {
		for _, s := range in {
			agreesOn(t, s)
			c, _ := config.Parse([]byte(s))
			agreesAbout(t, c)
			isWrong(t, api.Config{})
		}
	}
}

// W1: what is very much, very deep, or very long.
func TestMuch(t *testing.T) {
	const much = 1 << 17
	nested := append(row{{Kind: 6, Count: 1}, {Kind: 5, Key: "x", Count: 1}}, slices.Repeat(row{{Kind: 5, Count: 1}}, much)...)
	nested[len(nested)-1].Count = 0
	for _, rest := range []row{nested, nested[:much], wide(much)} {
		isWrong(t, api.Config{Rest: rest})
		c := told(60)
		for k := range c.History {
			c.History[k].Rest = rest
		}
		isWrong(t, c)
	}
	// Each is right by itself, but not all of them.
	c := told(60)
	c.History = append(c.History, slices.Repeat([]api.Hist{{By: "x", Empty: true}}, 140)...)
	for k := range c.History {
		c.History[k].Rest = wide(4990)
	}
	isWrong(t, c)
	isWrong(t, api.Config{DiffIds: make([]api.Digest, much), Rest: bare()})
	isWrong(t, api.Config{DiffIds: make([]api.Digest, much), History: make([]api.Hist, much), Rest: bare()})
	fails(t, object(root(list(slices.Repeat([]string{"1"}, much)...))), api.ErrFull)
	fails(t, deep(much), api.ErrFull)
	fails(t, strings.Repeat(" ", much), api.ErrForm)
	c = told(3)
	c.History[0].By, c.History[2].By = strings.Repeat("\u00e4\n", much), strings.Repeat("\U0001f600", much)
	c.Rest = of(object(quoted(strings.Repeat("k", much)) + ":" + quoted(strings.Repeat("v", much))))
	c.History[1].Rest = c.Rest
	parses(t, whole(c, true), c)
	c.History[2].By += "\xff"
	isWrong(t, c)
}

// P14.2, P14.5, W1: any bytes are parsed as other hands parse them.
func FuzzParse(f *testing.F) {
	for _, s := range []string{whole(simple(1), true), whole(rested(2), true), whole(told(3), false), object(rootOf(nil), `"history":[{}]`), object(rootOf(nil), `"history":[{"empty_layer":true}]`), "{", whole(simple(61), false), object(rootOf(sums(1)), `"x":[{"b":1,"a":2}]`), object(rootOf(sums(1)), `"history":[{"created_by":1},{"empty_layer":null}]`)} {
		f.Add([]byte(s))
	}
	f.Fuzz(func(t *testing.T, b []byte) { agreesOn(t, string(b)) })
}

// P14.3, P14.5, W1: any configs are printed as other hands print them.
func FuzzPrint(f *testing.F) {
	f.Add([]byte(`{"a":1}`), []byte("{}"), "x", "", 1, uint64(2), 2, 0)
	f.Add([]byte(`{}`), []byte(`{"x":[{"b":1,"a":2}]}`), "", "\u00e4", 2, uint64(0), 2, 1)
	f.Add([]byte(`{"rootfs":1}`), []byte(`{"created_by":1}`), "\xff", "y", 61, uint64(1<<63), 61, 2)
	f.Add([]byte(`{}`), []byte(`{"z":1}`), "y", "x", 0, ^uint64(0), 200, 3)
	f.Fuzz(func(t *testing.T, b, own []byte, by, other string, layers int, empties uint64, count, cut int) {
		c := simple(min(max(layers, 0), 70))
		c.Rest, _ = json.Parse(b)
		rest, _ := json.Parse(own)
		for k := range min(max(count, 0), 210) {
			h := api.Hist{By: by, Empty: empties>>(k%64)&1 == 1, Rest: rest}
			if k%3 == 2 {
				h.By, h.Rest = other, json.Sort(rest)
			}
			c.History = append(c.History, h)
		}
		agreesAbout(t, c)
		c.Rest = json.Sort(c.Rest)
		agreesAbout(t, c)
		for k := range c.History {
			c.History[k].Rest = json.Sort(rest)
		}
		agreesAbout(t, c)
		c.DiffIds = sums(min(modelLayers(c.History), 70))
		agreesAbout(t, c)
		c.Rest = c.Rest[:min(max(cut, 0), len(c.Rest))]
		agreesAbout(t, c)
	})
}
