package change_test

import (
	"slices"
	"strconv"
	"strings"
	"testing"

	"onionskin/api"
	"onionskin/change"
)

// P16.2: rows of changes, written down, and their entries.
func TestTo(t *testing.T) {
	makes(t, nil)
	makes(t, []api.Change{})
	makes(t, make([]api.Change, 0, 3))
	makes(t, []api.Change{white("a/b")}, entry("a/.wh.b", api.Node{}))
	makes(t, []api.Change{opaque("")}, entry(".wh..wh..opq", api.Node{}))
	makes(t, []api.Change{opaque("a")}, entry("a/.wh..wh..opq", api.Node{}))
	makes(t, []api.Change{put("a", dir(1)), opaque("a"), put("a/b", file("x"))}, entry("a", dir(1)), entry("a/.wh..wh..opq", api.Node{}), entry("a/b", file("x")))
	makes(t, []api.Change{white("b"), put("a", file("")), put("b", file("")), white("b/c"), put("b/c", file("c")), put("z", file(""))},
		entry(".wh.b", api.Node{}), entry("a", file("")), entry("b", file("")), entry("b/.wh.c", api.Node{}), entry("b/c", file("c")), entry("z", file("")))
	makes(t, []api.Change{put("-", file("")), opaque(""), white("a"), white("z"), put(".x", file("")), put("a", dir(3)), put("a/-", file("5")), white("a/z"), put("a/b", file("2")), put("a-b", file("1"))},
		entry("-", file("")), entry(".wh..wh..opq", api.Node{}), entry(".wh.a", api.Node{}), entry(".wh.z", api.Node{}), entry(".x", file("")), entry("a", dir(3)), entry("a/-", file("5")), entry("a/.wh.z", api.Node{}), entry("a/b", file("2")), entry("a-b", file("1")))
	makes(t, []api.Change{white("..."), opaque(".wh..wh..opq"), white(".wh.a/c"), put(".wh.a/b", file(""))},
		entry(".wh....", api.Node{}), entry(".wh..wh..opq/.wh..wh..opq", api.Node{}), entry(".wh.a/.wh.c", api.Node{}), entry(".wh.a/b", file("")))
	for _, kind := range kinds {
		makes(t, []api.Change{put("a", api.Node{Kind: kind}), put("b/c", rich(kind))}, entry("a", api.Node{Kind: kind}), entry("b/c", rich(kind)))
	}
}

// P16.2: changes that are not right by themselves, alone and among others.
func TestWrongChanges(t *testing.T) {
	for _, c := range []api.Change{
		{}, white(""), put("", dir(0)), put("/", file("")), put("/a", file("")), put("a/", file("")), put("./a", file("")), put("a/.", file("")), put("a//b", file("")), put("a/../b", file("")), put(".", file("")), put("..", dir(0)), put("a\x00", file("")),
		put(".wh.a", file("")), put("a/.wh.b", file("")), put(".wh..wh..opq", file("")), put(".wh.", file("")), put("a/.wh..", file("")),
		white("/a"), white("a/"), white("./a"), white("a//b"), white("."), white(".."), white("a/.."), white("a/."), white("a\x00"), white(".wh.a"), white("a/.wh.b"), white(".wh."), white(".wh..opq"), white("a/.wh..opq"), white(".wh..wh..opq"),
		opaque("/"), opaque("/a"), opaque("a/"), opaque("./a"), opaque("a//b"), opaque("."), opaque(".."), opaque("a/../b"), opaque("a\x00"),
		put(over, file("")), white(over), opaque(over), put(fullMark, file("")), white(fullMark), opaque(fullMark), put(full+"/"+over, file("")), put(deep(4093, 251, "a"), file("")), white(deep(4093, 251, "a")), opaque(deep(4084, 251, "a")),
	} {
		areWrong(t, c)
		areWrong(t, put("-", file("")), c)
		areWrong(t, c, put("z", file("")))
		areWrong(t, put("-", file("")), c, put("z", file("")))
		agreesOnChanges(t, []api.Change{c})
	}
}

// P16.2: ops that are none of the three.
func TestWrongOps(t *testing.T) {
	for _, op := range ops {
		for _, p := range []string{"a", "a/b", "", ".wh.a", "a/.wh..wh..opq", "..", full} {
			for _, n := range []api.Node{{}, rich(api.KindFile), dir(0)} {
				c := api.Change{Path: p, Op: op, Node: n}
				agreesOnChanges(t, []api.Change{c})
				if op < 0 || op > 2 {
					areWrong(t, c)
					areWrong(t, put("-", file("")), c, put("z", file("")))
				}
			}
		}
	}
}

// P16.2: no node beside a mark, in none of its fields; and none that is wrong.
func TestWrongNodes(t *testing.T) {
	for _, n := range []api.Node{
		{Kind: 1}, {Kind: -1}, {Mode: 1}, {Uid: 1}, {Gid: 1}, {Mtime: 1}, {Link: "l"}, {Link: "\x00"}, {Data: "d"}, {Data: "\x00"}, {Major: 1}, {Minor: 1}, {Attrs: attrs}, {Attrs: "x"},
		rich(api.KindFile), rich(api.KindDir), rich(api.KindSym), rich(api.KindHard), rich(api.KindChar), rich(api.KindBlock), rich(api.KindFifo),
	} {
		areWrong(t, api.Change{Path: "a", Op: api.OpWhite, Node: n})
		areWrong(t, api.Change{Path: "a", Op: api.OpOpaque, Node: n})
		areWrong(t, api.Change{Op: api.OpOpaque, Node: n})
		areWrong(t, put("a", dir(0)), api.Change{Path: "a", Op: api.OpOpaque, Node: n}, put("a/b", file("")))
	}
	for _, n := range wrongNodes() {
		areWrong(t, put("a", n))
		areWrong(t, put("a/b/c", n))
		areWrong(t, white("a"), put("a", n))
		areWrong(t, put("a", n), put("b", n))
		areWrong(t, api.Change{Path: "a", Op: api.OpWhite, Node: n})
		areWrong(t, api.Change{Path: "a", Op: api.OpOpaque, Node: n})
	}
}

// P16.2: each one is behind the one ahead, by its archive's path.
func TestWrongOrders(t *testing.T) {
	areWrong(t, put("b", file("")), put("a", file("")))
	areWrong(t, put("a/b", file("")), put("a", dir(0)))
	areWrong(t, put("a", file("")), put("a", file("")))
	areWrong(t, put("a", file("x")), put("a", dir(0)))
	areWrong(t, white("a"), white("a"))
	areWrong(t, opaque(""), opaque(""))
	areWrong(t, opaque("a"), opaque("a"))
	areWrong(t, put("a-b", file("")), put("a/b", file("")))
	areWrong(t, put("a", file("")), put("b", file("")), put("b", file("")), put("c", file("")))
	areWrong(t, put("a", file("")), put("c", file("")), put("b", file("")), put("d", file("")))
	areWrong(t, put("a", file("")), put("b", file("")), put("a", file("")))
	// Their Paths rise, but not their archive's paths.
	areWrong(t, put("a", file("")), white("a"))
	areWrong(t, put("a", file("")), white("b"))
	areWrong(t, put("a", file("")), opaque(""))
	areWrong(t, put("a/b", file("")), white("a/c"))
	areWrong(t, put("-", file("")), put(".x", file("")), white("a"))
	areWrong(t, white(".a"), opaque(".a"), white("b"), opaque(""))
	areWrong(t, white("a"), opaque(""))
	// Their archive's paths rise, but not their Paths.
	makes(t, []api.Change{white("b"), put("a", file(""))}, entry(".wh.b", api.Node{}), entry("a", file("")))
	makes(t, []api.Change{white("a"), put("a", file(""))}, entry(".wh.a", api.Node{}), entry("a", file("")))
	makes(t, []api.Change{put("-", file("")), opaque(""), white("a")}, entry("-", file("")), entry(".wh..wh..opq", api.Node{}), entry(".wh.a", api.Node{}))
	makes(t, []api.Change{put("a/-", file("")), opaque("a"), white("a/c"), put("a/b", file(""))}, entry("a/-", file("")), entry("a/.wh..wh..opq", api.Node{}), entry("a/.wh.c", api.Node{}), entry("a/b", file("")))
	makes(t, []api.Change{opaque(""), put("a", file("")), opaque("b"), opaque("b-")}, entry(".wh..wh..opq", api.Node{}), entry("a", file("")), entry("b/.wh..wh..opq", api.Node{}), entry("b-/.wh..wh..opq", api.Node{}))
}

// P16.2: one order of several is right.
func TestEachOrder(t *testing.T) {
	want := []api.Change{put("-", file("")), opaque(""), white("a"), put("a", dir(0)), white("a/b"), put("a/b", file("")), put("a-", file(""))}
	count := 0
	orders(want, func(l []api.Change) {
		if slices.Equal(l, want) {
			count++
			areRight(t, l)
		} else {
			areWrong(t, l...)
		}
	})
	if count != 1 {
		t.Error(count)
	}
}

// P16.2: all short rows of what matters.
func TestMixes(t *testing.T) {
	var l []api.Change
	for _, p := range []string{"", "a", "a/b", "b", ".wh.a", "./a"} {
		for _, op := range []int{-1, 0, 1, 2, 3} {
			for _, n := range []api.Node{{}, file("x"), dir(-1)} {
				l = append(l, api.Change{Path: p, Op: op, Node: n})
			}
		}
	}
	rows(l, 2, func(l []api.Change) { agreesOnChanges(t, l) })
	rows([]api.Change{opaque(""), white("a"), put("a", dir(0)), opaque("a"), white("a/b"), put("a/b", file("x")), opaque("a/b"), put("a-", file("")), white("b"), put("-", file("")), put("", file(""))}, 4, func(l []api.Change) { agreesOnChanges(t, l) })
}

// P16.2: paths of the greatest sizes.
func TestSizes(t *testing.T) {
	long := deep(4092, 251, "a")
	makes(t, []api.Change{white(full), put(full, file(""))}, entry(fullMark, api.Node{}), entry(full, file("")))
	makes(t, []api.Change{white(deep(4092, 251, full))}, entry(deep(4096, 251, fullMark), api.Node{}))
	makes(t, []api.Change{white(long), put(long, file(""))}, entry(long[:4091]+".wh.a", api.Node{}), entry(long, file("")))
	makes(t, []api.Change{opaque(full)}, entry(full+"/.wh..wh..opq", api.Node{}))
	makes(t, []api.Change{opaque(deep(4083, 251, "a"))}, entry(deep(4083, 251, "a")+"/.wh..wh..opq", api.Node{}))
	for n := 240; n < 260; n++ {
		for _, op := range ops[:3] {
			for _, name := range []string{strings.Repeat("n", n), ".wh." + strings.Repeat("n", n-4), ".wh." + strings.Repeat("n", n)} {
				for _, p := range []string{name, "a/" + name, name + "/a"} {
					agreesOnChanges(t, []api.Change{{Path: p, Op: op}})
				}
			}
		}
	}
	for n := 4070; n < 4100; n++ {
		for _, op := range ops[:3] {
			for _, last := range []string{"a", ".wh.a", ".wh..wh..opq"} {
				agreesOnChanges(t, []api.Change{{Path: deep(n, 251, last), Op: op}})
			}
		}
	}
	for _, s := range []string{strings.Repeat("a", 1<<17), strings.Repeat("a/", 1<<17), strings.Repeat("/", 1<<17), strings.Repeat(".wh.", 1<<17), strings.Repeat("\x00", 1<<17)} {
		for _, op := range ops {
			areWrong(t, api.Change{Path: s, Op: op})
		}
	}
}

// P16.2: each byte in a path.
func TestEachByte(t *testing.T) {
	for c := range 256 {
		b := string([]byte{byte(c)})
		for _, s := range []string{"", "a", "a/b", ".wh.", ".wh..wh..opq"} {
			for at := range len(s) + 1 {
				for _, op := range ops[:4] {
					agreesOnChanges(t, []api.Change{{Path: s[:at] + b + s[at:], Op: op}})
					agreesOnChanges(t, []api.Change{{Path: "a/a", Op: 0}, {Path: s[:at] + b + s[at:], Op: op}})
				}
			}
		}
	}
}

// P16.2: as many changes as there are.
func TestMany(t *testing.T) {
	const count = 20000
	var l []api.Change
	for k := range count {
		l = append(l, api.Change{Path: "d" + strconv.Itoa(100000+k) + "/x", Op: k % 3})
	}
	areRight(t, l)
	for _, k := range []int{0, 1, 999, 1000, 4999, 5000, count - 2} {
		m := slices.Clone(l)
		m[k], m[k+1] = m[k+1], m[k]
		areWrong(t, m...)
		m = slices.Clone(l)
		m[k+1].Op = 3
		areWrong(t, m...)
		m = slices.Clone(l)
		m[k+1] = m[k]
		areWrong(t, m...)
	}
}

// P16.2: Less, written down.
func TestLess(t *testing.T) {
	rising := []api.Change{
		put("", file("")), // it has no archive's path
		put("-", file("")), put(".a", file("")), opaque(""), white("a"), white("z"), put(".wi", file("")), put("A", file("")), put("a", dir(-1)), put("a/-", file("")), opaque("a"), white("a/b"), put("a/b", file("")), opaque("a/b"), put("a/b/c", file("")), put("a-", file("")), opaque("a."), put("a\xff", file("")), put("\xff", file("")),
	}
	for j, a := range rising {
		for k, b := range rising {
			isAhead(t, a, b, j < k)
			a.Node, b.Node = rich(api.KindSym), api.Node{Mode: -1}
			isAhead(t, a, b, j < k)
		}
	}
}

// P16.2: a change that has no archive's path is ahead of each that has one, and not of another one.
func TestLessOfNone(t *testing.T) {
	nones := []api.Change{{}, white(""), put("..", dir(0)), put("/a", file("")), put("a/", file("")), put(".wh.a", file("")), white(".wh.a"), white("a/.wh..opq"), opaque("/"), opaque("./a"), {Path: "a", Op: 3}, {Path: "a", Op: -1}, {Path: "z", Op: api.MaxInt}, {Path: "a", Op: api.MinInt}, put(over, file("")), white(over), opaque(deep(4084, 251, "a"))}
	some := []api.Change{put("\x01", file("")), put("-", file("")), opaque(""), white("a"), put("a", file("")), white("..."), put("...", file("")), put(full, file("")), white(full), white(deep(4092, 251, "a")), opaque(deep(4083, 251, "a"))}
	for _, a := range nones {
		for _, b := range nones {
			isAhead(t, a, b, false)
		}
		for _, b := range some {
			isAhead(t, a, b, true)
			isAhead(t, b, a, false)
		}
	}
}

// P16.2: Less of all short paths, by all ops.
func TestLessOfMixes(t *testing.T) {
	var l []api.Change
	for _, p := range []string{"", "a", "b", "a/b", "b/a", "a-", "a-/b", "a.", "-", ".", ".a", ".wh.a", ".wh.a/b", ".wi", "A", "a/b/c", "a/-", "a/.", "a//b", "\xff", "a\xff", "..."} {
		for _, op := range ops[:5] {
			l = append(l, api.Change{Path: p, Op: op})
		}
	}
	for _, a := range l {
		for _, b := range l {
			isAhead(t, a, b, modelAhead(modelArchive(a), modelArchive(b)))
		}
	}
}

// P16.2: Bytes.
func TestBytes(t *testing.T) {
	has(t, 0)
	has(t, 0, []api.Change{}...)
	has(t, 0, api.Change{})
	has(t, 0, put("a", file("")), white("b"), opaque("c"), put("d", dir(5)))
	has(t, 3, put("a", file("abc")))
	has(t, 6, put("a", file("abc")), white("x"), put("b", file("d")), put("c", file("\x00\xff")))
	has(t, 6, put("a", file("abc")), put("a", file("abc")))
	has(t, 4, put("a", file("\u20ac\n")))
	// Whatever the changes are, and whatever else their nodes have.
	has(t, 15, api.Change{Path: "a", Op: api.OpWhite, Node: file("1")}, api.Change{Op: api.OpOpaque, Node: file("22")}, api.Change{Op: 9, Node: file("444")}, put("..", file("88")), put("a", api.Node{Kind: api.KindDir, Data: "1234567"}))
	for _, kind := range append(slices.Clone(kinds), noKinds...) {
		has(t, 2, put("a", api.Node{Kind: kind, Data: "xx", Link: "link", Attrs: attrs, Mode: 4, Uid: 5, Gid: 6, Mtime: 7, Major: 8, Minor: 9}))
		has(t, 0, put("a", api.Node{Kind: kind, Link: "link", Attrs: attrs}))
	}
	great := file(strings.Repeat("x", 1<<20))
	var l []api.Change
	for range 1500 {
		l = append(l, put("a", great))
	}
	has(t, 1500<<20, l...)
	for n := range 300 {
		has(t, n*(n+1)/2, sized(n)...)
	}
}

// sized is changes with data of 0 to n bytes.
func sized(n int) []api.Change {
	var l []api.Change
	for k := range n + 1 {
		l = append(l, put("a", file(strings.Repeat("y", k))))
	}
	return l
}

// P16.2: what a call tells hangs on nothing that was told before.
func TestTwiceTheSame(t *testing.T) {
	l := []api.Change{white("a"), put("a", dir(0)), put("a/b", file("xyz"))}
	for range 3 {
		makes(t, l, entry(".wh.a", api.Node{}), entry("a", dir(0)), entry("a/b", file("xyz")))
		areWrong(t, append(slices.Clone(l), l[0])...)
		has(t, 3, l...)
		if !change.Right(l[:2]) || !change.Right(l[1:]) || !change.Right(l[2:]) {
			t.Error("not right")
		}
	}
}
