package paths_test

import (
	"math/rand"
	"slices"
	"strings"
	"testing"

	"onionskin/paths"
)

// rising are texts, each of which is ahead of those behind it.
var rising = []string{
	"", "/", "//", "//a", "/\x00", "/a", "/a/", "/a/b", "\x00", "\x00/a", "\x01", " ", "-", ".", "./a", "..", "...", "..a", ".a", ".wh.a", ".wh.a/b", "0", "A", "A/z",
	"a", "a/", "a//", "a//b", "a/\x00", "a/\x01", "a/ ", "a/-", "a/.", "a/.wh.b", "a/0", "a/b", "a/b/", "a/b/c", "a/b/c/d", "a/b/d", "a/b\x00", "a/b ", "a/b-c", "a/b.", "a/b.c/d", "a/b0", "a/bb", "a/b\xff", "a/c", "a/\x7f", "a/\x80", "a/\xff",
	"a\x00", "a\x00/b", "a\x01", "a\x1f", "a ", "a /b", "a!", "a-", "a-/b", "a-b", "a-b/c", "a.", "a.b", "a.b/c", "a0", "a:", "aA", "aa", "aa/b", "aaa", "ab", "ab/a", "a\x7f", "a\x80", "a\u00e4", "a\xff", "a\xff/a", "b", "z", "\x7f", "\x80", "\u00e4", "\u00e4/a", "\u00e4-", "\xfe", "\xff", "\xff/a", "\xff ", "\xff\xff",
}

// P15.2: each text is behind those ahead of it.
func TestCompare(t *testing.T) {
	for i, a := range rising {
		for k, b := range rising {
			want := 0
			if i < k {
				want = -1
			} else if i > k {
				want = 1
			}
			if n := paths.Compare(a, b); n != want {
				t.Errorf("%q, %q: %d, not %d", a, b, n, want)
			}
			agreesOnBoth(t, a, b)
			for _, ahead := range []string{"x/", "x/y/", "x", full, full + "/"} {
				if want := modelCompare(ahead+a, ahead+b); paths.Compare(ahead+a, ahead+b) != want {
					t.Errorf("%q, %q, behind %q: not %d", a, b, ahead, want)
				}
			}
		}
	}
}

// P15.2: what is sorted is in the order of its parts, however it stood.
func TestCompareSorts(t *testing.T) {
	order := rand.New(rand.NewSource(15))
	for range 50 {
		l := slices.Clone(rising)
		order.Shuffle(len(l), func(i, k int) { l[i], l[k] = l[k], l[i] })
		slices.SortFunc(l, paths.Compare)
		if !slices.Equal(l, rising) {
			t.Fatalf("%q", l)
		}
	}
}

// P15.2: two parts that differ by each two bytes, alone, behind others and ahead of others.
func TestCompareOfEachByte(t *testing.T) {
	for i := range 256 {
		for k := range 256 {
			a, b := string([]byte{byte(i)}), string([]byte{byte(k)})
			want := 0
			if i < k {
				want = -1
			} else if i > k {
				want = 1
			}
			if i != '/' && k != '/' {
				for _, ahead := range []string{"", "x", "x/", "x/y", "\xff/"} {
					for _, behind := range [][2]string{{"", ""}, {"y", "x"}, {"x", "y"}, {"/y", ""}, {"", "/y"}, {"/\xff", "/\x00"}, {"\x00", "\xff"}} {
						got := paths.Compare(ahead+a+behind[0], ahead+b+behind[1])
						if i != k && got != want {
							t.Errorf("%q, %q, %q, %q: %d", ahead, a, b, behind, got)
						}
					}
				}
			}
			for _, pair := range [][2]string{{a, b}, {"x" + a, "x" + b}, {a + "x", b + "x"}, {"x" + a + "y", "x" + b + "y"}, {"x" + a + "y", "x" + b + "x"}, {"x" + a, "x/" + b}, {"x" + a + "y", "x/" + b}, {a, a + b}, {a + "/" + b, a + b}} {
				agreesOnBoth(t, pair[0], pair[1])
				agreesOnBoth(t, pair[1], pair[0])
			}
		}
	}
}

// P15.2: all pairs of short texts.
func TestAllShortPairs(t *testing.T) {
	for _, l := range [][]string{mixes(4, "/", "a", "-", "\x00", "\xff"), mixes(6, "/", "a", " "), mixes(3, "/", "ab", "b", ".", ".wh.", "0", "\u00e4", "\x80")} {
		for _, a := range l {
			for _, b := range l {
				agreesOnBoth(t, a, b)
			}
		}
	}
}

// P15.2: texts that differ late, or not at all.
func TestCompareOfLongTexts(t *testing.T) {
	const count = 1 << 17
	for _, s := range []string{strings.Repeat("a", count), strings.Repeat("a/", count), strings.Repeat("/", count), deep(count, 251, "x"), deep(4096, 2, ".wh.x")} {
		for _, b := range []string{"", "a", "/", "/a", "-", "\xff", "\x00", s} {
			want := 1
			if b == "" {
				want = 0
			}
			if n := paths.Compare(s+b, s); n != want {
				t.Errorf("%q, %q: %d", brief(s), brief(b), n)
			}
			if n := paths.Compare(s, s+b); n != -want {
				t.Errorf("%q, %q: %d", brief(s), brief(b), n)
			}
			agreesOnBoth(t, s, s+b)
			agreesOnBoth(t, s+b, s)
			agreesOnBoth(t, s+b, s+"/b")
			agreesOnBoth(t, s+"/b", s+b)
			agreesOnBoth(t, s+"-b", s+b)
		}
		if n := paths.Compare("", s); n != -1 {
			t.Error(n)
		}
		if !paths.Under("", s) || paths.Under(s, "") || paths.Under(s, s) || !paths.Under(s, s+"/") || !paths.Under(s, s+"/a") || paths.Under(s, s+"a") || paths.Under(s+"/a", s) {
			t.Errorf("%q: under", brief(s))
		}
		if p := paths.Parent(s + "/b"); p != s {
			t.Errorf("%q: %q", brief(s), brief(p))
		}
		if p := paths.Parent(s + "b"); p != modelParent(s+"b") {
			t.Errorf("%q: %q", brief(s), brief(p))
		}
	}
}

// P15.2: what is up to the last slash.
func TestParent(t *testing.T) {
	for p, want := range map[string]string{
		"": "", "a": "", "abc": "", ".": "", "..": "", "\x00": "", "\xff": "", ".wh.a": "", ".wh..wh..opq": "", full: "", over: "",
		"a/b": "a", "a/b/c": "a/b", "a/b/c/d/e": "a/b/c/d", "ab/cd": "ab", "a/.wh.b": "a", ".wh.a/b": ".wh.a", "a/..": "a", "../a": "..", "a\x00/b": "a\x00", "\xff/\x80": "\xff", "a\\b": "", "a\\b/c": "a\\b", "\u2044a": "",
		"/": "", "//": "/", "///": "//", "/a": "", "//a": "/", "a/": "a", "a//": "a/", "/a/": "/a", "a//b": "a/", "./a": ".",
		full + "/" + over: full, deep(4096, 251, "x"): fill(4094, 251), deep(9999, 2, "xyz"): fill(9995, 2),
	} {
		if got := paths.Parent(p); got != want {
			t.Errorf("%q: %q, not %q", brief(p), brief(got), brief(want))
		}
	}
}

// P15.2: what is below what.
func TestUnder(t *testing.T) {
	for _, pair := range [][2]string{
		{"", "a"}, {"", "a/b"}, {"", "/"}, {"", "."}, {"", ".wh.a"}, {"", "\x00"}, {"", "\xff"}, {"", deep(5000, 251, "x")},
		{"a", "a/b"}, {"a", "a/b/c"}, {"a/b", "a/b/c"}, {"a", "a/"}, {"a", "a//"}, {"a", "a/.."}, {"a/", "a//"}, {"a/", "a//b"}, {"/", "//"}, {"/", "//a"}, {"\xff", "\xff/\x00"}, {".wh.a", ".wh.a/b"}, {"a/b/c", "a/b/c/a/b/c"}, {"..", "../a"}, {"aa", "aa/a"},
	} {
		if !paths.Under(pair[0], pair[1]) {
			t.Errorf("%q: not", pair)
		}
		if paths.Under(pair[1], pair[0]) {
			t.Errorf("%q: the other way round", pair)
		}
		agreesOnBoth(t, pair[0], pair[1])
	}
	for _, pair := range [][2]string{
		{"", ""}, {"a", ""}, {"a", "a"}, {"a/b", "a/b"}, {"a", "ab"}, {"a", "ab/c"}, {"a", "a-b"}, {"a", "a-/b"}, {"a", "a."}, {"a", "a0"}, {"a", "a "}, {"a", "b"}, {"a", "b/a"}, {"a", "b/a/c"}, {"a/b", "a"}, {"a/b", "a/bc"}, {"a/b", "a/bc/d"}, {"a/b", "a/c/b"}, {"b", "a/b"}, {"b", "a/b/c"},
		{"a/", "a/b"}, {"a/", "a/"}, {"a/", "a"}, {"/", "/"}, {"/", "/a"}, {"/", ""}, {"/a", "a/b"}, {"a", "/a/b"}, {"a", "A/b"}, {"a", "./a/b"}, {"./a", "a/b"}, {".", "a"}, {".", "a/b"}, {"a", "a\\b"}, {"a", "a\x00/b"}, {"a", "a\x00"}, {"a", "a\u2044b"}, {"\xff", "\xfe/a"}, {"aa", "a/a"}, {"aa", "a/aa"}, {full, over},
	} {
		if paths.Under(pair[0], pair[1]) {
			t.Errorf("%q", pair)
		}
		agreesOnBoth(t, pair[0], pair[1])
	}
}

// P15.2: each path is right behind what it is below, ahead of all that is not below that.
func TestOrderOfTrees(t *testing.T) {
	l := mixes(5, "a", "a/", "-", ".b", "/\xff")
	l = slices.DeleteFunc(l, func(s string) bool { p, ok := paths.Clean(s); return !ok || p != s })
	slices.SortFunc(l, paths.Compare)
	for i, p := range l {
		if up := paths.Parent(p); up != "" && (paths.Compare(up, p) != -1 || !paths.Under(up, p)) {
			t.Errorf("%q, %q", up, p)
		}
		over := false
		for _, q := range l[i+1:] {
			if !paths.Under(p, q) {
				over = true
			} else if over {
				t.Errorf("%q, %q: what is not below stands between", p, q)
			}
		}
	}
}

func FuzzPair(f *testing.F) {
	for i, s := range rising {
		f.Add(s, rising[len(rising)-1-i], "x/")
	}
	f.Fuzz(func(t *testing.T, a, b, ahead string) {
		agreesOnBoth(t, a, b)
		agreesOnBoth(t, b, a)
		agreesOnBoth(t, ahead+a, ahead+b)
		agreesOnBoth(t, a, a+b)
		agreesOnBoth(t, a, a+"/"+b)
		agreesOnBoth(t, a+"/"+b, a+ahead+b)
		agreesOnBoth(t, paths.Parent(a), a)
	})
}
