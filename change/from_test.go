package change_test

import (
	"slices"
	"strconv"
	"strings"
	"testing"

	"onionskin/api"
	"onionskin/change"
)

// P16.1: rows of entries, written down.
func TestFrom(t *testing.T) {
	comesTo(t, []api.Entry{entry("a/.wh.b", file(""))}, white("a/b"))
	comesTo(t, []api.Entry{entry("a", dir(0o755)), entry("a/b", file("x"))}, put("a", dir(0o755)), put("a/b", file("x")))
	comesTo(t, []api.Entry{entry("a/b", file("x")), entry("a", dir(0o755))}, put("a", dir(0o755)), put("a/b", file("x")))
	comesTo(t, []api.Entry{entry(".wh..wh..opq", file(""))}, opaque(""))
	comesTo(t, []api.Entry{entry("a/.wh..wh..opq", file("")), entry("a/b", file("x")), entry("a", dir(1))},
		put("a", dir(1)), opaque("a"), put("a/b", file("x")))
	comesTo(t, []api.Entry{entry("z", file("")), entry("b/.wh.c", file("")), entry("b/c", file("c")), entry(".wh.b", file("")), entry("a", rich(api.KindSym)), entry("b", dir(0))},
		white("b"), put("a", rich(api.KindSym)), put("b", dir(0)), white("b/c"), put("b/c", file("c")), put("z", file("")))
	// By the parts, and by the archive's path, not by the one that is spoken of.
	comesTo(t, []api.Entry{entry("a-b", file("1")), entry("a/b", file("2")), entry("a", dir(3)), entry("a.b", file("4")), entry("a/.wh.z", file("")), entry("a/-", file("5")), entry("-", file("6"))},
		put("-", file("6")), put("a", dir(3)), put("a/-", file("5")), white("a/z"), put("a/b", file("2")), put("a-b", file("1")), put("a.b", file("4")))
	comesTo(t, []api.Entry{entry("a", file("")), entry(".wh.z", file("")), entry(".wh.b", file("")), entry(".x", file("")), entry(".a", file("")), entry("A", file("")), entry(".wh..wh..opq", file(""))},
		put(".a", file("")), opaque(""), white("b"), white("z"), put(".x", file("")), put("A", file("")), put("a", file("")))
}

// P16.1: of nothing there is no change.
func TestFromOfNothing(t *testing.T) {
	comesTo(t, nil)
	comesTo(t, []api.Entry{})
	comesTo(t, make([]api.Entry, 0, 5))
}

// P16.1: nodes of each kind, as they are, in order and not.
func TestFromOfKinds(t *testing.T) {
	var l []api.Entry
	var want []api.Change
	for _, kind := range kinds {
		for k, n := range []api.Node{{Kind: kind}, {Kind: kind, Mode: 0o644, Uid: 1, Gid: 2, Mtime: 3}, rich(kind)} {
			p := "d/" + strconv.Itoa(kind) + strconv.Itoa(k)
			comesTo(t, []api.Entry{entry(p, n)}, put(p, n))
			comesTo(t, []api.Entry{entry("./"+p+"//.", n)}, put(p, n))
			l = append(l, entry(p, n))
			want = append(want, put(p, n))
		}
	}
	comesTo(t, l, want...)
	slices.Reverse(l)
	comesTo(t, l, want...)
	for k := range l {
		l[k].Path += "/"
	}
	comesTo(t, l, want...)
}

// P16.1: a path's form does not matter.
func TestFromOfForms(t *testing.T) {
	n := rich(api.KindFile)
	for _, between := range []string{"/", "//", "/./", "//././/"} {
		for _, ahead := range []string{"", "/", "./", "//.//"} {
			for _, behind := range []string{"", "/", "/.", "/.//"} {
				form := func(l ...string) string { return ahead + strings.Join(l, between) + behind }
				comesTo(t, []api.Entry{entry(form("a"), n)}, put("a", n))
				comesTo(t, []api.Entry{entry(form("a", "b", "c"), n)}, put("a/b/c", n))
				comesTo(t, []api.Entry{entry(form("...", "..a"), n)}, put(".../..a", n))
				comesTo(t, []api.Entry{entry(form(".wh.a"), n)}, white("a"))
				comesTo(t, []api.Entry{entry(form("a", ".wh.b"), n)}, white("a/b"))
				comesTo(t, []api.Entry{entry(form("a", "b", ".wh...."), n)}, white("a/b/..."))
				comesTo(t, []api.Entry{entry(form(".wh..wh..opq"), n)}, opaque(""))
				comesTo(t, []api.Entry{entry(form("a", ".wh..wh..opq"), n)}, opaque("a"))
				comesTo(t, []api.Entry{entry(form(".wh.a", "b"), n)}, put(".wh.a/b", n))
				comesTo(t, []api.Entry{entry(form(".wh..wh..opq", ".wh..wh..opq"), n)}, opaque(".wh..wh..opq"))
				refuses(t, api.ErrPath, entry(form("a", ".."), n))
				refuses(t, api.ErrPath, entry(form("..", "a"), n))
				refuses(t, api.ErrPath, entry(form("a", ".wh."), n))
				refuses(t, api.ErrPath, entry(form(".wh..wh.a"), n))
				refuses(t, api.ErrTwice, entry("x", n), entry("a/b", n), entry("y", n), entry(form("a", "b"), n))
				refuses(t, api.ErrTwice, entry("a/.wh.b", n), entry(form("a", ".wh.b"), n))
				refuses(t, api.ErrTwice, entry(form(".wh..wh..opq"), n), entry(".wh..wh..opq", n))
			}
		}
	}
}

// noPaths are texts that tell no path, and such of whose paths no mark is told.
var noPaths = []string{
	"", "/", "//", ".", "./", "/.", "./.", "..", "../", "/..", "../a", "a/..", "a/../b", "./..",
	"\x00", "a\x00", "\x00a", "a\x00b", "a/\x00/b", ".wh.\x00", ".wh.a\x00",
	".wh.", ".wh..", ".wh...", ".wh..wh.", ".wh..wh.a", ".wh..wh..op", ".wh..wh..opq.", ".wh..wh..opqq", ".wh..wh..wh..opq", ".wh..wh..wh.", "a/.wh.", "a/.wh..", "a/b/.wh...", "a/.wh..wh..wh..opq",
	"./.wh.", ".wh./", ".wh.//.", "a//.wh..wh.x/", "./.wh../",
	over, over + "/a", "a/" + over + "/b", overMark, "a/" + overMark, fullMark + "/a", deep(4093, 251, "a"), deep(4097, 251, ".wh.a"), deep(4096, 251, ".wh."), deep(4093, 2, "a"),
}

// P16.1: no path, or nothing that it tells, alone and among others.
func TestFromOfNoPaths(t *testing.T) {
	for _, p := range noPaths {
		refuses(t, api.ErrPath, entry(p, api.Node{}))
		agreesOnEntries(t, []api.Entry{entry(p, api.Node{})})
		for _, kind := range kinds {
			refuses(t, api.ErrPath, entry(p, rich(kind)))
		}
		refuses(t, api.ErrPath, entry("a", file("")), entry(p, file("")), entry("b", file("")))
		refuses(t, api.ErrPath, entry(p, file("")), entry("a", file("")), entry("b", file("")))
		refuses(t, api.ErrPath, entry("a", file("")), entry("b", file("")), entry(p, file("")))
		refuses(t, api.ErrPath, entry(p, file("")), entry(p, file("")))
	}
}

// P16.1: what is marked is a file.
func TestFromOfMarkedKinds(t *testing.T) {
	for _, p := range []string{".wh.a", "a/.wh.b", "a/b/.wh.c", ".wh..wh..opq", "a/.wh..wh..opq", "a/b/.wh..wh..opq", "./.wh.a", "a//.wh..wh..opq/", fullMark} {
		comesTo(t, []api.Entry{entry(p, rich(api.KindFile))}, modelChange(p))
		for _, kind := range append(kinds[1:], noKinds...) {
			refuses(t, api.ErrType, entry(p, api.Node{Kind: kind}))
			refuses(t, api.ErrType, entry(p, rich(kind)))
			refuses(t, api.ErrType, entry("x", file("")), entry(p, rich(kind)), entry("y", file("")))
			refuses(t, api.ErrType, entry(p, file("")), entry(p, rich(kind)))
		}
	}
}

// modelChange is the change of a marked entry.
func modelChange(p string) api.Change {
	op, path := modelMark(modelClean(p))
	return api.Change{Path: path, Op: op}
}

// P16.1: of what is marked the node does not matter, but its kind.
func TestFromOfMarkedNodes(t *testing.T) {
	nodes := []api.Node{
		{}, rich(api.KindFile), {Mode: 1}, {Uid: 1}, {Gid: 1}, {Mtime: 1}, {Link: "l"}, {Data: "d"}, {Major: 1}, {Minor: 1}, {Attrs: attrs}, {Attrs: "x"},
		{Mode: -1}, {Mode: api.MaxInt}, {Uid: -1}, {Gid: api.MinInt}, {Mtime: -1}, {Link: "\x00"}, {Data: "\x00"}, {Major: -1}, {Minor: api.MaxInt},
		{Mode: -1, Uid: -1, Gid: -1, Mtime: -1, Link: "\x00", Data: "d", Major: -1, Minor: -1, Attrs: "\x00"},
	}
	for _, n := range append(nodes, wrongNodes()...) {
		for _, p := range []string{".wh.a", "a/.wh.b", ".wh..wh..opq", "a/.wh..wh..opq"} {
			if n.Kind == api.KindFile {
				comesTo(t, []api.Entry{entry(p, n)}, modelChange(p))
				comesTo(t, []api.Entry{entry("x", file("d")), entry(p, n)}, modelChange(p), put("x", file("d")))
				refuses(t, api.ErrTwice, entry(p, file("")), entry(p, n))
			} else {
				refuses(t, api.ErrType, entry(p, n))
			}
		}
	}
}

// P16.1: each of the ways in which a node can be wrong.
func TestFromOfWrongNodes(t *testing.T) {
	l := wrongNodes()
	if len(l) < 200 {
		t.Fatal(len(l))
	}
	for _, n := range l {
		for _, p := range []string{"a", "a/b", "./a//", ".wh.a/b", full} {
			refuses(t, api.ErrArg, entry(p, n))
			refuses(t, api.ErrArg, entry("x", file("")), entry(p, n))
			refuses(t, api.ErrArg, entry(p, n), entry("x", file("")))
			refuses(t, api.ErrArg, entry(p, file("")), entry(p, n))
			refuses(t, api.ErrArg, entry(p, n), entry(p, n))
		}
	}
}

// P16.1: numbers and texts at their limits.
func TestFromAtLimits(t *testing.T) {
	for _, n := range []api.Node{
		{Mode: 0o7777}, {Uid: 1 << 62, Gid: 1 << 62, Mtime: 1 << 62},
		{Kind: api.KindSym, Link: strings.Repeat("l", 4096)}, {Kind: api.KindHard, Link: strings.Repeat("l", 4096)}, {Kind: api.KindSym}, {Kind: api.KindHard},
		{Kind: api.KindChar, Major: 1<<56 - 1}, {Kind: api.KindBlock, Minor: 1<<56 - 1}, {Data: strings.Repeat("\x00", 1<<16)},
	} {
		comesTo(t, []api.Entry{entry("a", n)}, put("a", n))
	}
}

// P16.1: one path twice, in one form or in two, next to one another and far apart.
func TestFromTwice(t *testing.T) {
	far := make([]api.Entry, 100)
	for k := range far {
		far[k] = entry("x/"+strconv.Itoa(k), file(""))
	}
	for _, p := range []string{"a", "a/b", "...", ".wh.a", "a/.wh.b", ".wh..wh..opq", "a/.wh..wh..opq", ".wh.a/b", full, fullMark, deep(4092, 251, "a"), deep(4096, 251, ".wh.a")} {
		for _, form := range []string{p, "/" + p, "./" + p, p + "/", p + "/.", "//" + strings.ReplaceAll(p, "/", "/./") + "//"} {
			for _, first := range []api.Node{file(""), file("x"), {Uid: 5}} {
				refuses(t, api.ErrTwice, entry(p, first), entry(form, file("")))
				refuses(t, api.ErrTwice, entry(form, first), entry(p, file("y")))
				refuses(t, api.ErrTwice, slices.Concat([]api.Entry{entry(p, first)}, far, []api.Entry{entry(form, file(""))})...)
				refuses(t, api.ErrTwice, slices.Concat(far, []api.Entry{entry(p, first), entry(form, file(""))})...)
				refuses(t, api.ErrTwice, slices.Concat([]api.Entry{entry(p, first), entry("y", file("")), entry(form, file(""))}, far)...)
			}
			refuses(t, api.ErrTwice, entry(form, file("")), entry(form, file("")), entry(form, file("")))
		}
	}
	refuses(t, api.ErrTwice, append(far, far[0])...)
	refuses(t, api.ErrTwice, append(far, far[99])...)
}

// P16.1: paths that are not one, however much they are alike.
func TestFromNotTwice(t *testing.T) {
	comesTo(t, []api.Entry{entry("a", file("")), entry(".wh.a", file(""))}, white("a"), put("a", file("")))
	comesTo(t, []api.Entry{entry("d/.wh.a", file("")), entry("d/a", file(""))}, white("d/a"), put("d/a", file("")))
	comesTo(t, []api.Entry{entry("a", dir(0)), entry(".wh.a", file("")), entry("a/.wh..wh..opq", file("")), entry("a/.wh.b", file("")), entry("a/b", file(""))},
		white("a"), put("a", dir(0)), opaque("a"), white("a/b"), put("a/b", file("")))
	comesTo(t, []api.Entry{entry(".wh..wh..opq", file("")), entry(".wh.a", file("")), entry("a", file(""))}, opaque(""), white("a"), put("a", file("")))
	comesTo(t, []api.Entry{entry("a ", file("")), entry("a", file("")), entry("A", file("")), entry(" a", file(""))},
		put(" a", file("")), put("A", file("")), put("a", file("")), put("a ", file("")))
	comesTo(t, []api.Entry{entry("a\xff", file("")), entry("a\xfe", file("")), entry("a\xef\xbf\xbd", file("")), entry("\u00e4", file("")), entry("a\u0308", file(""))},
		put("a\u0308", file("")), put("a\xef\xbf\xbd", file("")), put("a\xfe", file("")), put("a\xff", file("")), put("\u00e4", file("")))
	comesTo(t, []api.Entry{entry(".wh.a/b", file("")), entry(".wh.a", file("")), entry("a/b", file("")), entry("ab", file(""))},
		white("a"), put(".wh.a/b", file("")), put("a/b", file("")), put("ab", file("")))
	// One node, and one link, at several paths.
	n := rich(api.KindHard)
	comesTo(t, []api.Entry{entry("b", n), entry("a", n)}, put("a", n), put("b", n))
}

// P16.1: of what is wrong in one entry the first counts.
func TestFromOfSeveralFaults(t *testing.T) {
	ahead := []api.Entry{entry("a", file("")), entry(".wh.b", file("")), entry(".wh..wh..opq", file(""))}
	with := func(p string, n api.Node) []api.Entry { return append(slices.Clone(ahead), entry(p, n)) }
	for _, n := range wrongNodes() {
		for _, p := range noPaths {
			refuses(t, api.ErrPath, with(p, n)...)
		}
		refuses(t, api.ErrArg, with("a", n)...)
		refuses(t, api.ErrArg, with("./a/", n)...)
		if n.Kind != api.KindFile {
			refuses(t, api.ErrType, with(".wh.b", n)...)
			refuses(t, api.ErrType, with(".wh..wh..opq", n)...)
			refuses(t, api.ErrType, with(".wh.new", n)...)
		} else {
			refuses(t, api.ErrTwice, with(".wh.b", n)...)
			refuses(t, api.ErrTwice, with("/.wh..wh..opq", n)...)
		}
	}
}

// P16.1: of wrong entries the first one tells, whatever the others have.
func TestFromOfSeveralWrongOnes(t *testing.T) {
	good := []api.Entry{entry("m", file("")), entry(".wh.n", file("")), entry("o/.wh..wh..opq", file("x"))}
	bad := map[api.Errno][]api.Entry{
		api.ErrPath:  {entry("..", file("")), entry(".wh.", file("")), entry("", dir(-1))},
		api.ErrType:  {entry(".wh.q", dir(0)), entry(".wh..wh..opq", api.Node{Kind: 9})},
		api.ErrArg:   {entry("q", dir(-1)), entry("m", api.Node{Uid: -1})},
		api.ErrTwice: {entry("m", file("")), entry("./m/", rich(api.KindFifo)), entry(".wh.n/", file("x"))},
	}
	for want, firsts := range bad {
		for _, first := range firsts {
			refuses(t, want, append(slices.Clone(good), first)...)
			for _, seconds := range bad {
				for _, second := range seconds {
					refuses(t, want, append(slices.Clone(good), first, second)...)
					refuses(t, want, append(slices.Clone(good), first, entry("r", file("")), second)...)
					refuses(t, want, append(slices.Clone(good), first, second, first)...)
				}
			}
		}
	}
}

// P16.1: what was refused does not stand there for the next call.
func TestFromOfOneAgain(t *testing.T) {
	l := []api.Entry{entry("b", file("x")), entry("a", dir(0))}
	for range 3 {
		comesTo(t, l, put("a", dir(0)), put("b", file("x")))
		refuses(t, api.ErrTwice, append(slices.Clone(l), l[0])...)
		refuses(t, api.ErrPath, append(slices.Clone(l), entry("..", file("")))...)
	}
}

// P16.1: paths of the greatest sizes, marked and not, and one byte beyond them.
func TestFromOfSizes(t *testing.T) {
	for _, p := range []string{full, full + "/" + full, deep(4092, 251, "a"), deep(4092, 2, "a"), deep(4092, 251, full)} {
		comesTo(t, []api.Entry{entry(p, file("x"))}, put(p, file("x")))
		comesTo(t, []api.Entry{entry(strings.Repeat("./", 5000)+p+strings.Repeat("/", 5000), file("x"))}, put(p, file("x")))
		refuses(t, api.ErrPath, entry(p+strings.Repeat("b", 252), file("x")))
	}
	cut := func(s string) string { return s[:len(s)-5] + s[len(s)-1:] }
	for _, p := range []string{deep(4096, 251, ".wh.a"), deep(4096, 2, ".wh.a")} {
		comesTo(t, []api.Entry{entry(p, file("x"))}, white(cut(p)))
		refuses(t, api.ErrPath, entry(p+"b", file("x")))
	}
	comesTo(t, []api.Entry{entry(fullMark, file(""))}, white(full))
	comesTo(t, []api.Entry{entry(full+"/"+fullMark, file(""))}, white(full+"/"+full))
	comesTo(t, []api.Entry{entry(deep(4096, 251, fullMark), file(""))}, white(deep(4092, 251, full)))
	comesTo(t, []api.Entry{entry(deep(4096, 251, ".wh..wh..opq"), file(""))}, opaque(deep(4096, 251, ".wh..wh..opq")[:4083]))
	comesTo(t, []api.Entry{entry(fullMark, file("")), entry(full, file("")), entry(full+"/.wh..wh..opq", file(""))}, white(full), put(full, file("")), opaque(full))
	refuses(t, api.ErrPath, entry(deep(4097, 251, ".wh..wh..opq"), file("")))
	for n := range 300 {
		name := strings.Repeat("n", n)
		for _, l := range [][]api.Entry{{entry(name, file(""))}, {entry(".wh."+name, file(""))}, {entry("b/"+name, file("")), entry("b/.wh."+name, file(""))}, {entry(name+"/b", file("")), entry(name+"/.wh..wh..opq", file(""))}} {
			agreesOnEntries(t, l)
		}
	}
	for n := 4070; n < 4110; n++ {
		for _, last := range []string{"a", ".wh.a", ".wh..wh..opq", ".wh."} {
			for _, size := range []int{2, 100, 251} {
				agreesOnEntries(t, []api.Entry{entry(deep(n, size, last), file(""))})
			}
		}
	}
}

// P16.1: each byte in a path, ahead of a mark, within it and behind it.
func TestFromOfEachByte(t *testing.T) {
	for c := range 256 {
		b := string([]byte{byte(c)})
		for _, s := range []string{"a", "a/b", ".wh.a", "a/.wh..wh..opq", ".wh.", "./a/."} {
			for at := range len(s) + 1 {
				agreesOnEntries(t, []api.Entry{entry(s[:at]+b+s[at:], file("x")), entry("a/a", file(""))})
				if at < len(s) {
					agreesOnEntries(t, []api.Entry{entry(s[:at]+b+s[at+1:], file("x"))})
				}
			}
		}
		// Two of them, which may be in this order or the other one.
		for _, d := range []byte{1, '-', '.', '/', '0', 'a', 0x80, 0xff} {
			agreesOnEntries(t, []api.Entry{entry("p"+b+"q", file("1")), entry("p"+string([]byte{d})+"q", file("2")), entry("p", dir(0))})
		}
	}
}

// P16.1, P16.4: all short rows of what matters.
func TestFromOfMixes(t *testing.T) {
	rows([]api.Entry{
		entry("a", file("1")), entry("./a/", dir(2)), entry("a/b", file("3")), entry("a-", file("4")), entry(".wh.a", file("5")), entry("a/.wh.b", file("")),
		entry(".wh..wh..opq", file("6")), entry("a//.wh..wh..opq", file("")), entry(".wh.z", dir(0)), entry("z", file("7")), entry("..", dir(-1)), entry("z/", dir(-1)), entry("a/.wh..", file("")),
	}, 4, func(l []api.Entry) { agreesOnEntries(t, l) })
}

// P16.1, P16.4: the order in which the entries stood does not matter.
func TestFromInEachOrder(t *testing.T) {
	want := []api.Change{opaque(""), white("a"), put("a", dir(1)), opaque("a"), white("a/b"), put("a/b", rich(api.KindChar)), put("a-", file("x"))}
	l := []api.Entry{entry("a-", file("x")), entry(".wh.a", file("y")), entry("a", dir(1)), entry("a/b/", rich(api.KindChar)), entry("./a/.wh.b", file("")), entry("a/.wh..wh..opq", file("")), entry("/.wh..wh..opq", file(""))}
	orders(l, func(l []api.Entry) { comesTo(t, l, want...) })
}

// P16.1: as many entries as there are; no limit of archives or trees is one here.
func TestFromOfMany(t *testing.T) {
	const count = 20000
	var l []api.Entry
	var want []api.Change
	for k := range count {
		p := "d" + strconv.Itoa(100000+k)
		switch k % 3 {
		case 0:
			l = append(l, entry(p, file(p)))
			want = append(want, put(p, file(p)))
		case 1:
			l = append(l, entry(p+"/.wh.x", file(p)))
			want = append(want, white(p+"/x"))
		case 2:
			l = append(l, entry("./"+p+"//.wh..wh..opq", file(p)))
			want = append(want, opaque(p))
		}
	}
	comesTo(t, l, want...)
	slices.Reverse(l)
	comesTo(t, l, want...)
	for k := range l { // one that has no divisor in common with their number
		l[k], l[k*7%count] = l[k*7%count], l[k]
	}
	comesTo(t, l, want...)
	refuses(t, api.ErrTwice, append(l, l[count/2])...)
	refuses(t, api.ErrTwice, append(l, l[0], entry("..", file("")))...)
	if got, ok := change.To(want); !ok || len(got) != count || got[count-1].Path != "d119999/.wh.x" {
		t.Error(len(got), ok)
	}
	for _, count := range []int{999, 1000, 1001, 4999, 5000, 5001} {
		comesTo(t, l[:count], sorted(l[:count])...)
	}
}

// sorted is the changes of entries, each one by itself, in order.
func sorted(l []api.Entry) []api.Change {
	var changes []api.Change
	for _, e := range l {
		one, _ := change.From([]api.Entry{e})
		changes = append(changes, one...)
	}
	slices.SortFunc(changes, func(a, b api.Change) int {
		if modelAhead(modelArchive(a), modelArchive(b)) {
			return -1
		}
		return 1
	})
	return changes
}
