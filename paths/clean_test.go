package paths_test

import (
	"strings"
	"testing"

	"onionskin/paths"
)

// P15.1: texts, written down.
func TestClean(t *testing.T) {
	for s, want := range map[string]string{
		"a": "a", "abc": "abc", "a/b": "a/b", "a/b/c/d/e": "a/b/c/d/e", "usr/share/doc/x.txt": "usr/share/doc/x.txt",
		"/a": "a", "//a": "a", "a/": "a", "a//": "a", "/a/": "a", "a//b": "a/b", "///a///b///": "a/b", "/a/b/c": "a/b/c",
		"./a": "a", "a/.": "a", "a/./b": "a/b", "./a//b/": "a/b", "./././a/././b/././.": "a/b", "/./a": "a", "a/./": "a", "a/.//./b": "a/b", ".//a": "a",
		"...": "...", "....": "....", "a/...": "a/...", ".../a": ".../a", ".a": ".a", "..a": "..a", "...a": "...a", "a.": "a.", "a..": "a..", "a..b": "a..b", ".a.": ".a.", "..a..": "..a..", "./.a/..b/.": ".a/..b",
		". ": ". ", ".. ": ".. ", " .": " .", " ..": " ..", " ": " ", "a b/c d": "a b/c d", "\t/\n/\r": "\t/\n/\r", "a\\b": "a\\b", "..\\a": "..\\a", "*?:\"<>|": "*?:\"<>|", "~": "~", "-": "-", "c:": "c:", "\x01/\x7f": "\x01/\x7f",
		"\u00e4/\u20ac/\U0001f600": "\u00e4/\u20ac/\U0001f600", "\u2025/\u2026/\u2044/\uff0f": "\u2025/\u2026/\u2044/\uff0f", "\xff": "\xff", "\x80/\xc3/\xc0\xaf": "\x80/\xc3/\xc0\xaf", "./\xed\xa0\x80//\xf4\x90\x80\x80": "\xed\xa0\x80/\xf4\x90\x80\x80", ".\xff": ".\xff", "..\x80": "..\x80", "\xc0\xae": "\xc0\xae", "\xc0\xae\xc0\xae": "\xc0\xae\xc0\xae",
		".wh.a": ".wh.a", ".wh.": ".wh.", ".wh..": ".wh..", ".wh...": ".wh...", ".wh..wh..opq": ".wh..wh..opq", "./a//.wh.b/": "a/.wh.b", ".wh.a/b": ".wh.a/b", ".wh./.wh./.wh.": ".wh./.wh./.wh.",
	} {
		cleans(t, s, want)
		cleans(t, want, want)
		agreesOn(t, s)
	}
}

// P15.1: texts of which there is no path.
func TestCleanOfNone(t *testing.T) {
	for _, s := range []string{
		"", "/", "//", "///////", ".", "./", "/.", "/./", "./.", ".//.", "././././", "//.//",
		"..", "../", "/..", "/../", "../a", "a/..", "a/../b", "a/b/..", "a/b/../c", "../..", "./..", "../.", "a/./../b", "a//..//b", "/../a", "../../a/b", "a/..//", "..//a", ".../..", "../...",
		"\x00", "a\x00", "\x00a", "a\x00b", "a/\x00", "\x00/a", "a/\x00/b", ".\x00", "..\x00", "\x00.", ".wh.\x00", ".wh.a\x00", "a\x00/..", "/\x00/", "\xff\x00",
		over, overMark, "a/" + over, over + "/a", overMark + "/a",
	} {
		noPath(t, s)
		agreesOn(t, s)
	}
}

// P15.1: one path, however it is told.
func TestCleanOfForms(t *testing.T) {
	for _, p := range []string{"a", "a/b", "a/b/c", "...", ".wh.a", "a/.wh..wh..opq", "\xff/ /\u00e4", full + "/" + fullMark, deep(4092, 251, "a"), deep(4096, 2, ".wh.a")} {
		for _, between := range []string{"/", "//", "///", "/./", "/././", "//.//", "/.//./"} {
			for _, ahead := range []string{"", "/", "//", "./", "/./", ".//./"} {
				for _, behind := range []string{"", "/", "//", "/.", "/./", "//./."} {
					cleans(t, ahead+strings.ReplaceAll(p, "/", between)+behind, p)
				}
			}
			noPath(t, strings.ReplaceAll(p, "/", between)+between+"..")
			noPath(t, ".."+between+strings.ReplaceAll(p, "/", between))
		}
	}
}

// P15.1: what is left out does not count, however much it is.
func TestCleanOfMuchLeftOut(t *testing.T) {
	const count = 1 << 17
	longest := deep(4092, 251, "a")
	marked := deep(4096, 251, ".wh.a")
	for _, out := range []string{"/", "./", "//.//./"} {
		much := strings.Repeat(out, count)
		for _, p := range []string{"a", full, longest, marked} {
			cleans(t, "/"+much+p+"/"+much, p)
			noPath(t, "/"+much+p+"/"+much+"..")
			noPath(t, "/"+much+p+"/"+much+"x\x00")
		}
		cleans(t, "a/"+much+"b/"+much+"c", "a/b/c")
		noPath(t, much)
		noPath(t, much+".")
		noPath(t, longest+"b/"+much)
		noPath(t, "/"+much+longest+"b/"+much)
		noPath(t, marked+"b/"+much)
	}
	for _, s := range []string{strings.Repeat("a", count), strings.Repeat("a/", count), strings.Repeat("../", count), strings.Repeat(".", count), strings.Repeat("\x00", count), strings.Repeat(".wh.", count), strings.Repeat(".wh./", count)} {
		noPath(t, s)
	}
}

// P15.1: each byte, alone and beside others, at each place.
func TestCleanOfEachByte(t *testing.T) {
	for c := range 256 {
		b := string([]byte{byte(c)})
		for _, s := range []string{"", "a", ".", "..", "...", "/", "a/", "/a", "a/b", "./a", ".wh.", ".wh.a", "a/.wh..wh..opq", "\xc3", "\u00e4/\u20ac"} {
			for at := range len(s) + 1 {
				agreesOn(t, s[:at]+b+s[at:])
				if at < len(s) {
					agreesOn(t, s[:at]+b+s[at+1:])
				}
			}
		}
		switch c {
		case 0:
			noPath(t, b)
		case '.', '/':
			noPath(t, b)
			cleans(t, "a/"+b+"/b", "a/b")
		default:
			cleans(t, b, b)
			cleans(t, "./"+b+"//x"+b+"/", b+"/x"+b)
			cleans(t, ".."+b, ".."+b)
		}
	}
}

// P15.1: a byte 0 at each place of a path.
func TestCleanOfZeros(t *testing.T) {
	for _, p := range []string{"a", "ab/cd/ef", ".wh.a", "a/.wh..wh..opq", full + "/a/" + fullMark, deep(4090, 251, "a")} {
		for at := range len(p) {
			noPath(t, p[:at]+"\x00"+p[at:])
			noPath(t, p[:at]+"\x00"+p[at+1:])
		}
		noPath(t, p+"\x00")
	}
}

// P15.1: parts of each size, as the first, a middle and the last one, with a mark and without.
func TestCleanOfPartSizes(t *testing.T) {
	for n := range 300 {
		plain := strings.Repeat("a", n)
		for _, part := range []string{plain, strings.Repeat(".", n), strings.Repeat("\xff", n), strings.Repeat("\u00e4", n/2) + plain[:n%2], (".wh" + plain)[:n], (".WH." + plain)[:n], ("a.wh." + plain)[:n], ("..wh." + plain)[:n]} {
			for _, s := range []string{part, part + "/b", "b/" + part, "b/" + part + "/b", part + "/" + part, part + "/" + part + "/.wh.b"} {
				agreesOn(t, s)
				if part == "" || part == "." || part == ".." {
					continue
				}
				if n <= 251 {
					cleans(t, s, s)
				} else {
					noPath(t, s)
				}
			}
		}
		if n < 4 {
			continue
		}
		for _, part := range []string{".wh." + plain[4:], ".wh." + strings.Repeat("\xff", n-4), (".wh..wh." + plain)[:n], (".wh..wh..opq" + plain)[:n]} {
			for _, s := range []string{part, "b/" + part, ".wh.b/" + part} {
				agreesOn(t, s)
				if n <= 255 {
					cleans(t, s, s)
					cleans(t, "/"+s+"/", s)
				} else {
					noPath(t, s)
				}
			}
			for _, s := range []string{part + "/b", "b/" + part + "/b", part + "/" + part[:4], part + "/.wh.b/b"} {
				agreesOn(t, s)
				if n <= 251 {
					cleans(t, s, s)
					cleans(t, s+"/.", s)
				} else {
					noPath(t, s)
				}
			}
		}
	}
}

// P15.1: paths of each size around the greatest ones, with a mark and without.
func TestCleanOfPathSizes(t *testing.T) {
	for n := 4085; n < 4102; n++ {
		for _, size := range []int{2, 3, 100, 250, 251} {
			for last, most := range map[string]int{
				"a": 4092, full: 4092, ".wh": 4092, ".whx": 4092, ".w": 4092, "x.wh.": 4092, "..wh.": 4092, ".wha.wh.": 4092, "...": 4092,
				".wh.": 4096, ".wh.a": 4096, ".wh..": 4096, ".wh...": 4096, ".wh..wh.": 4096, ".wh..wh..opq": 4096, ".wh." + full[:1]: 4096, fullMark: 4096, fullMark[:254]: 4096,
			} {
				s := deep(n, size, last)
				agreesOn(t, s)
				if n > most {
					noPath(t, s)
					noPath(t, "./"+s)
					continue
				}
				cleans(t, s, s)
				cleans(t, "./"+s+"/", s)
				cleans(t, strings.ReplaceAll(s, "/", "/.//"), s)
			}
			for _, last := range []string{over, overMark} {
				noPath(t, deep(n, size, last))
			}
			// A mark that is not the last part brings no room.
			s := ".wh./.wh.a/" + deep(n-11, size, "a")
			if n <= 4092 {
				cleans(t, s, s)
			} else {
				noPath(t, s)
			}
		}
	}
}

// P15.1, P15.3, P15.4: all short mixes of what matters.
func TestAllShortTexts(t *testing.T) {
	for _, s := range mixes(7, "/", ".", "a", "\x00") {
		agreesOn(t, s)
	}
	for _, s := range mixes(5, "/", ".", "..", "a", ".wh.", ".opq", ".wh..wh..opq", "\xff") {
		agreesOn(t, s)
	}
	for _, s := range mixes(4, "/", "a", ".wh.", full, over, strings.Repeat("/m", 1900), strings.Repeat("m/", 140)) {
		agreesOn(t, s)
	}
	for _, s := range mixes(8, ".", "w", "h") {
		agreesOn(t, s)
		agreesOn(t, "a/"+s)
	}
}

// P15.1: texts with the same parts have one path, others another one.
func TestCleanTellsPartsApart(t *testing.T) {
	parts := map[string]string{}
	for _, s := range mixes(7, "/", ".", "a", "b") {
		p, ok := paths.Clean(s)
		if !ok {
			continue
		}
		var kept []string
		for part := range strings.SplitSeq(s, "/") {
			if part != "" && part != "." {
				kept = append(kept, part)
			}
		}
		row := strings.Join(kept, "|")
		if old, ok := parts[row]; ok && old != p {
			t.Errorf("%q: %q, not %q", s, p, old)
		}
		parts[row] = p
		if strings.ReplaceAll(p, "/", "|") != row {
			t.Errorf("%q: %q", s, p)
		}
	}
}

func FuzzText(f *testing.F) {
	for _, s := range []string{"", "./a//b/", "a/../b", ".wh.a/.wh..wh..opq", "a\x00", "\xff/...", fullMark, over + "/a", deep(4092, 251, "a"), deep(4097, 2, ".wh.a")} {
		f.Add(s, 0)
		f.Add(s, 2)
	}
	f.Fuzz(func(t *testing.T, s string, op int) {
		agreesOn(t, s)
		if p, ok := paths.Clean(s); ok {
			agreesOn(t, p)
			agreesOn(t, p+"/.wh."+p)
		}
		if want, ok := modelUnmark(op, s); ok {
			marks(t, want, op, s)
		} else {
			noUnmark(t, op, s)
		}
	})
}
