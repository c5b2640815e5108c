package paths_test

import (
	"strings"
	"testing"

	"onionskin/api"
	"onionskin/paths"
)

// P15.3: marks, written down, at the root and deeper.
func TestMark(t *testing.T) {
	for _, name := range []string{"a", "abc", "a.b", ".a", "..a", "...", "....", ".w", ".wh", ".whx", "wh.", "wh.a", "a.wh.", "a.wh.b", ".a.wh.", "..wh.", ". wh.", ".Wh.a", ".WH.", ".wh\x01", ".opq", "..opq", "x.wh..wh..opq", " ", "\xff", "\u00e4", ".\xff", full, "..." + full[3:]} {
		for _, up := range []string{"", "a/", "a/b/c/", ".../", ".wh.a/", ".wh..wh..opq/", ".wh./", ".wh../", ".wh..wh.x/", ".wh.b/.wh.c/", full + "/", fullMark[:251] + "/"} {
			marks(t, up+name, api.OpPut, up+name)
			marks(t, up+".wh."+name, api.OpWhite, up+name)
			above := strings.TrimSuffix(up, "/")
			marks(t, up+".wh..wh..opq", api.OpOpaque, above)
			for _, s := range []string{up + name, up + ".wh." + name, up + ".wh..wh..opq"} {
				agreesOn(t, s)
			}
		}
	}
}

// P15.3: marked paths that tell nothing, at the root and deeper.
func TestMarkOfOthers(t *testing.T) {
	for _, name := range []string{
		".wh.", ".wh..", ".wh...", ".wh..wh.", ".wh..wh..", ".wh..wh...", ".wh..wh.a", ".wh..wh..opq.", ".wh..wh..opqx", ".wh..wh..opqq", ".wh..wh..opq ", ".wh..wh..opq\xff", ".wh..wh..op", ".wh..wh..o", ".wh..wh..OPQ", ".wh..wh..opa", ".wh..wh..oqq", ".wh..wh..apq", ".wh..wh.a.opq", ".wh..wh...opq", ".wh..wh.opq",
		".wh..wh..wh.", ".wh..wh..wh.a", ".wh..wh..wh..opq", ".wh..wh..wh..wh..opq", ".wh..wh.\xff", ".wh..wh." + full[8:], ".wh..wh." + full[4:], (".wh..wh..opq" + full)[:255],
	} {
		for _, up := range []string{"", "a/", "a/b/c/", ".wh.a/", ".wh..wh..opq/", full + "/"} {
			p := up + name
			cleans(t, p, p)
			noMark(t, p)
			agreesOn(t, p)
			for _, op := range numbers[:2] {
				noUnmark(t, op, p)
			}
			if len(name) <= 251 {
				marks(t, p+"/x", api.OpPut, p+"/x")
			} else {
				noMark(t, p+"/x")
			}
		}
	}
	// What is one byte longer, shorter, or another one, is no mark of all that is below; it may be one of a name.
	marks(t, ".wh..wh", api.OpWhite, ".wh")
	marks(t, ".wh..whx", api.OpWhite, ".whx")
	marks(t, ".wh..opq", api.OpWhite, ".opq")
	marks(t, ".wh.wh..opq", api.OpWhite, "wh..opq")
	marks(t, ".wh...wh..opq", api.OpWhite, "..wh..opq")
	marks(t, "wh..wh..opq", api.OpPut, "wh..wh..opq")
	marks(t, "x.wh..wh..opq", api.OpPut, "x.wh..wh..opq")
	marks(t, " .wh..wh..opq", api.OpPut, " .wh..wh..opq")
	marks(t, "a/.wh....", api.OpWhite, "a/...")
	marks(t, "a/.wh..a", api.OpWhite, "a/.a")
	marks(t, "a/.wh...a", api.OpWhite, "a/..a")
}

// P15.3: what is no path has no mark, and is none of what is marked.
func TestMarkOfNoPath(t *testing.T) {
	for _, p := range []string{
		"", "/", "//", ".", "..", "./a", "a/.", "a/..", "../a", "a/../b", "a/./b", "a//b", "/a", "a/", "/a/b", "a/b/", "/.wh.a", ".wh.a/", "./.wh.a", "a//.wh.b", "../.wh.a", "a/.wh.b/.", "/.wh..wh..opq", ".wh..wh..opq/", "./.wh..wh..opq", "a//.wh..wh..opq", "a/../.wh..wh..opq",
		"\x00", "a\x00", "a\x00/b", "\x00/.wh.a", ".wh.\x00", ".wh.a\x00", "a\x00/.wh..wh..opq", ".wh..wh..opq\x00", "\x00.wh.a",
		over, overMark, over + "/a", over + "/.wh.a", "a/" + over, "a/" + overMark, fullMark + "/a", fullMark + "/.wh.a", fullMark + "/.wh..wh..opq", over + "/.wh..wh..opq", "b/" + overMark[:252] + "/b",
		deep(4093, 251, "a"), deep(4096, 251, "a"), deep(4097, 251, ".wh.a"), deep(4097, 251, ".wh..wh..opq"), deep(4097, 2, fullMark), deep(9999, 2, ".wh.a"),
	} {
		noPathAsIs(t, p)
		noMark(t, p)
		for _, op := range numbers {
			if p != "" || op != api.OpOpaque {
				noUnmark(t, op, p)
			}
		}
		agreesOn(t, p)
	}
	marks(t, ".wh..wh..opq", api.OpOpaque, "")
}

// noPathAsIs tells t where p is clean as it stands.
func noPathAsIs(t *testing.T, p string) {
	t.Helper()
	if got, ok := paths.Clean(p); ok && got == p {
		t.Errorf("%q: a path", brief(p))
	}
}

// P15.3: what is made of each op.
func TestUnmark(t *testing.T) {
	for _, c := range []struct {
		op      int
		p, want string
	}{
		{0, "a", "a"}, {1, "a", ".wh.a"}, {2, "a", "a/.wh..wh..opq"}, {2, "", ".wh..wh..opq"},
		{0, "a/b", "a/b"}, {1, "a/b", "a/.wh.b"}, {2, "a/b", "a/b/.wh..wh..opq"}, {1, "a/b/c", "a/b/.wh.c"},
		{0, ".wh.a/b", ".wh.a/b"}, {1, ".wh.a/b", ".wh.a/.wh.b"}, {2, ".wh.a", ".wh.a/.wh..wh..opq"}, {2, ".wh..wh..opq", ".wh..wh..opq/.wh..wh..opq"}, {2, "a/.wh.", "a/.wh./.wh..wh..opq"},
		{0, "...", "..."}, {1, "...", ".wh...."}, {2, "...", ".../.wh..wh..opq"}, {1, ".wh", ".wh..wh"}, {1, ".opq", ".wh..opq"}, {1, "x.wh.", ".wh.x.wh."}, {1, "\xff", ".wh.\xff"},
		{0, full, full}, {1, full, fullMark}, {2, full, full + "/.wh..wh..opq"}, {1, full + "/" + full, full + "/" + fullMark}, {2, fullMark[:251], fullMark[:251] + "/.wh..wh..opq"},
	} {
		if got, ok := paths.Unmark(c.op, c.p); got != c.want || !ok {
			t.Errorf("%d, %q: %q, %t, not %q", c.op, brief(c.p), brief(got), ok, brief(c.want))
		}
		marks(t, c.want, c.op, c.p)
		agreesOn(t, c.p)
	}
}

// P15.3: what there is no path of.
func TestUnmarkOfNone(t *testing.T) {
	for _, p := range []string{"", "/", ".", "..", "a/", "/a", "./a", "a/.", "a/..", "..", "a//b", "a\x00", over, "a/" + over, over + "/a", ".wh.a", "a/.wh.a", ".wh.", "a/.wh..", ".wh...", ".wh..opq", ".wh..wh..opq", "a/.wh..wh..opq", ".wh..wh.a", fullMark, overMark} {
		noUnmark(t, api.OpPut, p)
		noUnmark(t, api.OpWhite, p)
	}
	for _, p := range []string{"/", ".", "..", "a/", "/a", "./a", "a/.", "a/..", "../a", "a//b", "a\x00", "\x00/a", over, "a/" + over, over + "/a", fullMark, fullMark[:252], "a/" + fullMark[:252], overMark} {
		noUnmark(t, api.OpOpaque, p)
	}
	for _, op := range numbers[3:] {
		for _, p := range []string{"", "a", "a/b", ".wh.a", "a/.wh.b", ".wh..wh..opq", "a/.wh..wh..opq", "/", "a\x00", full, over} {
			noUnmark(t, op, p)
		}
	}
}

// P15.3: marks of paths of each size around the greatest ones.
func TestMarkOfSizes(t *testing.T) {
	for n := 4070; n < 4110; n++ {
		for _, size := range []int{2, 100, 251} {
			for _, name := range []string{"a", "abc", full, "..."} {
				p := deep(n, size, name)
				above := paths.Parent(p)
				whited := above + "/.wh." + name
				if n > 4092 {
					noMark(t, p)
					noMark(t, whited)
					noUnmark(t, api.OpPut, p)
					noUnmark(t, api.OpWhite, p)
				} else {
					marks(t, p, api.OpPut, p)
					marks(t, whited, api.OpWhite, p)
				}
				if n > 4083 {
					noMark(t, p+"/.wh..wh..opq")
					noUnmark(t, api.OpOpaque, p)
				} else {
					marks(t, p+"/.wh..wh..opq", api.OpOpaque, p)
				}
				agreesOn(t, p)
				agreesOn(t, whited)
			}
			for _, name := range []string{".wh.", ".wh..", ".wh..wh.x", ".wh..wh..opqx", ".wh..wh..opq"} {
				p := deep(n, size, name)
				if name != ".wh..wh..opq" || n > 4096 {
					noMark(t, p)
				} else {
					marks(t, p, api.OpOpaque, strings.TrimSuffix(p, "/"+name))
				}
				noUnmark(t, api.OpPut, p)
				noUnmark(t, api.OpWhite, p)
				agreesOn(t, p)
			}
		}
	}
}

// P15.3: names of each size, with a mark and without.
func TestMarkOfNameSizes(t *testing.T) {
	for n := 1; n < 300; n++ {
		for _, up := range []string{"", "a/", full + "/b/"} {
			p, whited := up+strings.Repeat("n", n), up+".wh."+strings.Repeat("n", n)
			if n > 251 {
				noMark(t, p)
				noMark(t, whited)
				noMark(t, p+"/.wh..wh..opq")
				for _, op := range numbers {
					noUnmark(t, op, p)
				}
				continue
			}
			marks(t, p, api.OpPut, p)
			marks(t, whited, api.OpWhite, p)
			marks(t, p+"/.wh..wh..opq", api.OpOpaque, p)
			if n > 247 {
				noUnmark(t, api.OpOpaque, whited)
			} else {
				marks(t, whited+"/.wh..wh..opq", api.OpOpaque, whited)
			}
		}
	}
}

// P15.3: each byte as a name, and beside the marks.
func TestMarkOfEachByte(t *testing.T) {
	const opaque = ".wh..wh..opq"
	for c := range 256 {
		b := string([]byte{byte(c)})
		for at := range len(opaque) + 1 {
			for _, up := range []string{"", "a/", ".wh.a/"} {
				agreesOn(t, up+opaque[:at]+b+opaque[at:])
				agreesOn(t, up+opaque[:at]+b)
				if at < len(opaque) {
					agreesOn(t, up+opaque[:at]+b+opaque[at+1:])
					agreesOn(t, up+opaque[:at]+opaque[at+1:])
				}
			}
		}
		if c == 0 || c == '/' || c == '.' {
			noMark(t, ".wh."+b)
			noMark(t, "a/"+b)
			continue
		}
		marks(t, b, api.OpPut, b)
		marks(t, ".wh."+b, api.OpWhite, b)
		marks(t, "a/.wh."+b+".wh.", api.OpWhite, "a/"+b+".wh.")
		noMark(t, ".wh..wh."+b)
		noMark(t, opaque+b)
	}
}

// P15.3, P15.4: among all paths of a kind no two are told as one, and each that is told is made again.
func TestMarksAreTold(t *testing.T) {
	type told struct {
		op int
		p  string
	}
	of := map[told]string{}
	l := mixes(6, "/", "a", ".", ".wh.", ".wh..wh..opq")
	for _, s := range l {
		op, p, ok := paths.Mark(s)
		if !ok {
			continue
		}
		if old, ok := of[told{op, p}]; ok {
			t.Errorf("%q, %q: both %d, %q", s, old, op, p)
		}
		of[told{op, p}] = s
	}
	for _, p := range l {
		for _, op := range numbers {
			s, ok := paths.Unmark(op, p)
			if want, there := of[told{op, p}]; there && (s != want || !ok) {
				t.Errorf("%d, %q: %q, %t, not %q", op, p, s, ok, want)
			}
			if !ok {
				continue
			}
			if gotOp, got, ok := paths.Mark(s); gotOp != op || got != p || !ok {
				t.Errorf("%d, %q: %q, of which %d, %q, %t is told", op, p, s, gotOp, got, ok)
			}
			if clean, ok := paths.Clean(s); clean != s || !ok {
				t.Errorf("%d, %q: %q, %q, %t", op, p, s, clean, ok)
			}
		}
	}
}

// P15.3: so each path that is not marked has one that is, and takes it away.
func TestEachPathCanBeTakenAway(t *testing.T) {
	for _, s := range append(mixes(6, "/", "a", ".", "..", ".wh."), full, deep(4092, 251, "a"), deep(4092, 2, full), deep(4092, 251, "...")) {
		p, ok := paths.Clean(s)
		if !ok {
			continue
		}
		op, got, ok := paths.Mark(p)
		if !ok || op != api.OpPut {
			continue
		}
		taken, ok := paths.Unmark(api.OpWhite, got)
		if !ok || !strings.HasPrefix(taken[strings.LastIndex(taken, "/")+1:], ".wh.") {
			t.Errorf("%q: %q, %t", brief(p), brief(taken), ok)
		}
		cleans(t, taken, taken)
	}
}

// W1: texts of many bytes, of which there are no marks.
func TestMarkOfLongTexts(t *testing.T) {
	const count = 1 << 20
	for _, s := range []string{strings.Repeat("a", count), strings.Repeat("a/", count), strings.Repeat("/", count), strings.Repeat("../", count), strings.Repeat(".wh.", count), strings.Repeat(".wh./", count), strings.Repeat("\x00", count), strings.Repeat("a/", count) + ".wh..wh..opq"} {
		noMark(t, s)
		for _, op := range numbers {
			noUnmark(t, op, s)
		}
	}
}
