package change_test

import (
	"slices"
	"strings"
	"testing"

	"onionskin/api"
	"onionskin/change"
)

// P16.3: what is handed to From is neither changed, nor its spare room, nor kept.
func TestFromLeavesItsEntries(t *testing.T) {
	for _, l := range [][]api.Entry{
		{entry("b", file("x")), entry("./a/", rich(api.KindDir)), entry("a/.wh.c", rich(api.KindFile)), entry(".wh..wh..opq", file("y"))},
		{entry("a", file("x")), entry("b", file("y"))},
		{entry("b", file("")), entry("a", file("")), entry("b", file(""))},
		{entry("b", file("")), entry("a", file("")), entry("..", file(""))},
		{entry(".wh.b", file("x")), entry("a", file("")), entry(".wh.x", dir(0))},
		{entry("b", file("")), entry("a", dir(-1))},
		{},
	} {
		spare := append(slices.Clone(l), entry("spare", dir(7)), entry("room", dir(8)))
		was := slices.Clone(spare)
		got, err := change.From(spare[:len(l)])
		if !slices.Equal(spare, was) {
			t.Errorf("%s was changed to %s", brief(was), brief(spare))
		}
		told := slices.Clone(got)
		for k := range spare {
			spare[k] = entry("other", dir(9))
		}
		if !slices.Equal(got, told) {
			t.Errorf("%s was kept: %s", brief(was), brief(got))
		}
		again, errAgain := change.From(was[:len(l)])
		if !slices.Equal(again, told) || err != errAgain {
			t.Errorf("%s: %s, then %s", brief(was), brief(told), brief(again))
		}
	}
}

// P16.3: what From answers is new memory, spare room too.
func TestFromAnswersNewMemory(t *testing.T) {
	l := []api.Entry{entry("a", file("x")), entry("b", dir(1)), entry("c", file("y"))}
	one, _ := change.From(l)
	two, _ := change.From(l)
	want := slices.Clone(two)
	overwrite(one)
	if !slices.Equal(two, want) {
		t.Error(brief(two))
	}
	comesTo(t, l, want...)
	for _, l := range [][]api.Entry{nil, {}} {
		one, _ := change.From(l)
		overwrite(append(one, white("a")))
		comesTo(t, l)
	}
}

// overwrite writes into a list, and into its spare room.
func overwrite[T any](l []T) {
	l = l[:cap(l)]
	clear(l)
}

// P16.3: what is handed to the others is neither changed, nor its spare room, nor kept.
func TestOthersLeaveTheirChanges(t *testing.T) {
	for _, l := range [][]api.Change{
		{white("b"), put("a", rich(api.KindSym)), put("b", file("x")), opaque("b")},
		{put("b", file("")), put("a", file(""))},
		{put("a", file("")), put("a", file(""))},
		{put("a", file("")), {Path: "./b"}},
		{put("./a", file("")), {Path: "b", Op: api.OpWhite, Node: dir(0)}},
		{},
	} {
		spare := append(slices.Clone(l), put("spare", dir(7)), white("room"))
		was := slices.Clone(spare)
		given := spare[:len(l)]
		got, ok := change.To(given)
		if change.Right(given) != ok || change.Bytes(given) > 1 {
			t.Error(brief(given))
		}
		if !slices.Equal(spare, was) {
			t.Errorf("%s was changed to %s", brief(was), brief(spare))
		}
		told := slices.Clone(got)
		for k := range spare {
			spare[k] = put("other", dir(9))
		}
		if !slices.Equal(got, told) {
			t.Errorf("%s was kept: %s", brief(was), brief(got))
		}
		if again, okAgain := change.To(was[:len(l)]); !slices.Equal(again, told) || okAgain != ok {
			t.Errorf("%s: %s, then %s", brief(was), brief(told), brief(again))
		}
	}
}

// P16.3: what To answers is new memory, spare room too.
func TestToAnswersNewMemory(t *testing.T) {
	l := []api.Change{white("a"), put("a", file("x")), put("b", dir(1))}
	one, _ := change.To(l)
	two, _ := change.To(l)
	want := slices.Clone(two)
	overwrite(one)
	if !slices.Equal(two, want) {
		t.Error(brief(two))
	}
	makes(t, l, want...)
	for _, l := range [][]api.Change{nil, {}} {
		one, _ := change.To(l)
		overwrite(append(one, entry("a", file(""))))
		makes(t, l)
	}
}

// P16.4: what comes of entries comes to entries that are clean, in order, and stay as they are.
func TestThereAndBack(t *testing.T) {
	all := []api.Entry{entry("/b/", rich(api.KindDir)), entry("b/.wh..wh..opq", rich(api.KindFile)), entry("b//c", rich(api.KindBlock)), entry("./.wh.b", file("x")), entry("b-", rich(api.KindHard)), entry(".wh..wh..opq", file("")), entry("-", rich(api.KindFifo)), entry("b/./.wh.c", file("y"))}
	for set := range 1 << len(all) {
		var l []api.Entry
		for k, e := range all {
			if set>>k&1 == 1 {
				l = append(l, e)
			}
		}
		changes, err := change.From(l)
		clean, ok := change.To(changes)
		if err != api.OK || !ok || len(clean) != len(l) {
			t.Fatalf("%s: %d, %t", brief(l), err, ok)
		}
		for k, e := range clean {
			if modelClean(e.Path) != e.Path || k > 0 && !modelAhead(clean[k-1].Path, e.Path) {
				t.Errorf("%s: %s", brief(l), brief(clean))
			}
		}
		comesTo(t, clean, changes...)
		slices.Reverse(clean)
		comesTo(t, clean, changes...)
	}
}

// entriesOf is entries that a text tells: fields of a path, a kind, a mode and data.
func entriesOf(s string) []api.Entry {
	var l []api.Entry
	for row := range strings.SplitSeq(s, "\n") {
		f := append(strings.Split(row, "|"), "", "", "")
		n := api.Node{Kind: len(f[1]), Mode: len(f[2]) - 1, Data: f[3]}
		if len(f[2]) == 0 {
			n.Mode = 0
		}
		if n.Kind == 9 {
			n = rich(len(f[3]))
		}
		l = append(l, entry(f[0], n))
	}
	return l
}

// changesOf is changes that a text tells: fields of a path, an op, a kind and data.
func changesOf(s string) []api.Change {
	var l []api.Change
	for row := range strings.SplitSeq(s, "\n") {
		f := append(strings.Split(row, "|"), "", "", "")
		l = append(l, api.Change{Path: f[0], Op: len(f[1]), Node: api.Node{Kind: len(f[2]), Data: f[3]}})
	}
	return l
}

// P16.1, P16.3, P16.4: any entries.
func FuzzFrom(f *testing.F) {
	for _, s := range []string{"", "a", "b\na", "a|o\na/.wh.b\na/.wh..wh..opq|||x", ".wh.a\na\n./a/", "a\n.wh.|o", "..|o|o", "a-\na/b\na|o\n.wh.z\n-", "b|||x\na|||y\n.wh.a|oo", "x|ooooooooo||xx"} {
		f.Add(s)
	}
	f.Fuzz(func(t *testing.T, s string) { agreesOnEntries(t, entriesOf(s)) })
}

// P16.2, P16.3, P16.4: any changes.
func FuzzTo(f *testing.F) {
	for _, s := range []string{"", "a", "a\nb", "a|o\na||o\na|oo\na/b|||x", "|oo\nb|o\na", "b\na", "a\na", "a|ooo", ".wh.a", "a|o|o", "a|o||x", "./a", "\xff"} {
		f.Add(s)
	}
	f.Fuzz(func(t *testing.T, s string) {
		l := changesOf(s)
		agreesOnChanges(t, l)
		count := 0
		for _, a := range l {
			count += len([]byte(a.Node.Data))
			for _, b := range l[:min(len(l), 50)] {
				isAhead(t, a, b, modelAhead(modelArchive(a), modelArchive(b)))
			}
		}
		has(t, count, l...)
	})
}
