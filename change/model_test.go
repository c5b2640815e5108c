package change_test

import (
	"fmt"
	"path"
	"slices"
	"strings"
	"testing"

	"onionskin/api"
	"onionskin/change"
	"onionskin/mktar"
)

// Parts that just fit, and one byte more, and such with a mark ahead.
var (
	full     = strings.Repeat("n", 251)
	over     = strings.Repeat("n", 252)
	fullMark = ".wh." + full
	overMark = ".wh." + over
)

// ops are ops: the three, and such as are none.
var ops = []int{api.OpPut, api.OpWhite, api.OpOpaque, -1, -2, 3, 4, 256, 257, 258, 1 << 32, 1<<32 + 1, 1<<32 + 2, api.MaxInt, api.MinInt, api.MinInt + 1, api.MinInt + 2}

// kinds are all kinds.
var kinds = []int{api.KindFile, api.KindDir, api.KindSym, api.KindHard, api.KindChar, api.KindBlock, api.KindFifo}

// noKinds are numbers that are no kinds.
var noKinds = []int{-1, -7, 7, 8, 256, 1 << 32, api.MaxInt, api.MinInt}

// attrs are attributes that may be.
const attrs = "25 SCHILY.xattr.user.a=b\n25 SCHILY.xattr.user.b=\xff\n"

// rich is a node of that kind in which all may stand that may stand there.
func rich(kind int) api.Node {
	n := api.Node{Kind: kind, Mode: 0o7777, Uid: 1000, Gid: 1 << 40, Mtime: 1 << 62, Attrs: attrs}
	switch kind {
	case api.KindFile:
		n.Data = "some\x00data\n"
	case api.KindSym, api.KindHard:
		n.Link = "../x/.wh.y"
	case api.KindChar, api.KindBlock:
		n.Major, n.Minor = 7, 1<<56-1
	}
	return n
}

// file is a file with that data, dir a folder with that mode.
func file(data string) api.Node { return api.Node{Data: data} }
func dir(mode int) api.Node     { return api.Node{Kind: api.KindDir, Mode: mode} }

// put, white and opaque are changes.
func put(p string, n api.Node) api.Change { return api.Change{Path: p, Node: n} }
func white(p string) api.Change           { return api.Change{Path: p, Op: api.OpWhite} }
func opaque(p string) api.Change          { return api.Change{Path: p, Op: api.OpOpaque} }

// entry is an entry.
func entry(p string, n api.Node) api.Entry { return api.Entry{Path: p, Node: n} }

// wrongNodes are nodes that are wrong, each in one of the ways that there are (P9.1).
func wrongNodes() []api.Node {
	var l []api.Node
	for _, kind := range noKinds {
		l = append(l, api.Node{Kind: kind})
	}
	for _, kind := range kinds {
		for _, n := range []int{-1, 0o10000, 1 << 32, api.MaxInt, api.MinInt} {
			l = append(l, api.Node{Kind: kind, Mode: n})
		}
		for _, n := range []int{-1, 1<<62 + 1, api.MaxInt, api.MinInt} {
			l = append(l, api.Node{Kind: kind, Uid: n}, api.Node{Kind: kind, Gid: n}, api.Node{Kind: kind, Mtime: n})
		}
		isLink := kind == api.KindSym || kind == api.KindHard
		isDevice := kind == api.KindChar || kind == api.KindBlock
		l = append(l, api.Node{Kind: kind, Link: "\x00"}, api.Node{Kind: kind, Link: strings.Repeat("l", 4097)})
		if !isLink {
			l = append(l, api.Node{Kind: kind, Link: "l"})
		}
		if kind != api.KindFile {
			l = append(l, api.Node{Kind: kind, Data: "d"}, api.Node{Kind: kind, Data: "\x00"})
		}
		for _, n := range []int{-1, 1 << 56, api.MaxInt, api.MinInt} {
			l = append(l, api.Node{Kind: kind, Major: n}, api.Node{Kind: kind, Minor: n})
		}
		if !isDevice {
			l = append(l, api.Node{Kind: kind, Major: 1}, api.Node{Kind: kind, Minor: 1})
		}
		for _, s := range []string{"x", "6 a=b\n", "25 SCHILY.xattr.user.b=x\n25 SCHILY.xattr.user.a=x\n", attrs + "x", attrs[1:], attrs + attrs, "9 path=x\n" + attrs} {
			l = append(l, api.Node{Kind: kind, Attrs: s})
		}
	}
	return l
}

// brief is what there is, as far as it can be told.
func brief(l any) string {
	s := fmt.Sprintf("%+q", fmt.Sprint(l))
	if len(s) > 400 {
		return s[:250] + " .. " + s[len(s)-150:]
	}
	return s
}

// fill is parts of together n bytes, with the slashes between, none of more than size.
func fill(n, size int) string {
	var l []string
	for n > size {
		part := min(size, n-2)
		l = append(l, strings.Repeat("b", part))
		n -= part + 1
	}
	return strings.Join(append(l, strings.Repeat("b", n)), "/")
}

// deep is a text of n bytes of which last is the end, and whose other parts have at most size bytes.
func deep(n, size int, last string) string {
	s := fill(n-len(last)-1, size) + "/" + last
	if len(s) != n {
		panic(n)
	}
	return s
}

// rows calls f with each row of at most so many of l, in each order and each one as often as may be; f must not keep it.
func rows[T any](l []T, count int, f func([]T)) {
	var row []T
	var more func()
	more = func() {
		f(row)
		if len(row) == count {
			return
		}
		for _, x := range l {
			row = append(row, x)
			more()
			row = row[:len(row)-1]
		}
	}
	more()
}

// orders calls f with l in each order; f must not keep it.
func orders[T any](l []T, f func([]T)) {
	row := slices.Clone(l)
	var from func(k int)
	from = func(k int) {
		if k == len(row) {
			f(row)
		}
		for j := k; j < len(row); j++ {
			row[k], row[j] = row[j], row[k]
			from(k + 1)
			row[k], row[j] = row[j], row[k]
		}
	}
	from(0)
}

// modelIsPath is whether p is a path: one with a mark may have the mark's bytes more.
func modelIsPath(p string) bool {
	l := strings.Split(p, "/")
	behind := len(l) - 1
	free := 0
	if strings.HasPrefix(l[behind], ".wh.") {
		free = 4
	}
	for k, part := range l {
		size := len(part)
		if k == behind {
			size -= free
		}
		if part == "" || part == "." || part == ".." || strings.Contains(part, "\x00") || size > 251 {
			return false
		}
	}
	return len(p)-free <= 4092
}

// modelClean is the path that a text tells, by other hands; empty, if there is none.
func modelClean(s string) string {
	p := path.Clean("/" + s)[1:]
	if slices.Contains(strings.Split(s, "/"), "..") || !modelIsPath(p) {
		return ""
	}
	return p
}

// modelMark is what a path tells; -1, if that is nothing.
func modelMark(p string) (int, string) {
	l := strings.Split(p, "/")
	behind := len(l) - 1
	switch name := l[behind]; {
	case !strings.HasPrefix(name, ".wh."):
		return 0, p
	case name == ".wh..wh..opq":
		return 2, strings.Join(l[:behind], "/")
	case name == ".wh." || name == ".wh.." || name == ".wh..." || strings.HasPrefix(name, ".wh..wh."):
		return -1, ""
	default:
		l[behind] = name[4:]
		return 1, strings.Join(l, "/")
	}
}

// modelArchive is the archive's path of a change; empty, if it has none.
func modelArchive(c api.Change) string {
	l := strings.Split(c.Path, "/")
	behind := len(l) - 1
	isPlain := modelIsPath(c.Path) && !strings.HasPrefix(l[behind], ".wh.")
	switch {
	case c.Op == 0 && isPlain:
		return c.Path
	case c.Op == 1 && isPlain:
		l[behind] = ".wh." + l[behind]
		return strings.Join(l, "/")
	case c.Op == 2 && c.Path == "":
		return ".wh..wh..opq"
	case c.Op == 2 && modelIsPath(c.Path+"/.wh..wh..opq"):
		return c.Path + "/.wh..wh..opq"
	}
	return ""
}

// modelAhead is whether a path is ahead of another one, by its parts; the empty one has none.
func modelAhead(a, b string) bool {
	if a == "" || b == "" {
		return b != ""
	}
	return slices.Compare(strings.Split(a, "/"), strings.Split(b, "/")) < 0
}

// modelError is what a writer of archives says of an entry.
func modelError(e api.Entry) api.Errno {
	_, err := mktar.Write([]api.Entry{e})
	return err
}

// modelFrom is From, by other hands: each change is laid to its place when it comes.
func modelFrom(l []api.Entry) ([]api.Change, api.Errno) {
	var there []string
	var changes []api.Change
	for _, e := range l {
		p := modelClean(e.Path)
		op, name := modelMark(p)
		n := e.Node
		if op != 0 {
			n = api.Node{}
		}
		switch {
		case p == "" || op < 0:
			return nil, api.ErrPath
		case op > 0 && e.Node.Kind != 0:
			return nil, api.ErrType
		case modelError(api.Entry{Path: p, Node: n}) != api.OK:
			return nil, modelError(api.Entry{Path: p, Node: n})
		case slices.Contains(there, p):
			return nil, api.ErrTwice
		}
		at := 0
		for at < len(there) && modelAhead(there[at], p) {
			at++
		}
		there = slices.Insert(there, at, p)
		changes = slices.Insert(changes, at, api.Change{Path: name, Op: op, Node: n})
	}
	return changes, api.OK
}

// modelTo is To, by other hands.
func modelTo(l []api.Change) ([]api.Entry, bool) {
	var entries []api.Entry
	for k, c := range l {
		e := api.Entry{Path: modelArchive(c), Node: c.Node}
		isBare := fmt.Sprint(c.Node) == fmt.Sprint(api.Node{})
		if e.Path == "" || modelError(e) != api.OK || c.Op != 0 && !isBare || k > 0 && !modelAhead(entries[k-1].Path, e.Path) {
			return nil, false
		}
		entries = append(entries, e)
	}
	return entries, true
}

// comesTo tells t where entries do not come to these changes.
func comesTo(t *testing.T, l []api.Entry, want ...api.Change) {
	t.Helper()
	was := slices.Clone(l)
	got, err := change.From(l)
	if err != api.OK || !slices.Equal(got, want) {
		t.Errorf("%s: %s, %d, not %s", brief(l), brief(got), err, brief(want))
	}
	if !slices.Equal(l, was) {
		t.Errorf("%s was changed to %s", brief(was), brief(l))
	}
	areRight(t, got)
}

// refuses tells t where entries are not wrong as want says, or where something is told beside the error.
func refuses(t *testing.T, want api.Errno, l ...api.Entry) {
	t.Helper()
	was := slices.Clone(l)
	if got, err := change.From(l); err != want || len(got) != 0 {
		t.Errorf("%s: %s, %d, not %d", brief(l), brief(got), err, want)
	}
	if !slices.Equal(l, was) {
		t.Errorf("%s was changed to %s", brief(was), brief(l))
	}
}

// areRight tells t where changes are not right, or do not come back by their entries.
func areRight(t *testing.T, l []api.Change) []api.Entry {
	t.Helper()
	was := slices.Clone(l)
	got, ok := change.To(l)
	if !ok || !change.Right(l) || len(got) != len(l) {
		t.Errorf("%s: %s, %t, %t", brief(l), brief(got), ok, change.Right(l))
	}
	if back, err := change.From(got); err != api.OK || !slices.Equal(back, l) {
		t.Errorf("%s, by %s: %s, %d", brief(l), brief(got), brief(back), err)
	}
	if !slices.Equal(l, was) {
		t.Errorf("%s was changed to %s", brief(was), brief(l))
	}
	return got
}

// makes tells t where changes do not make these entries.
func makes(t *testing.T, l []api.Change, want ...api.Entry) {
	t.Helper()
	if got := areRight(t, l); !slices.Equal(got, want) {
		t.Errorf("%s: %s, not %s", brief(l), brief(got), brief(want))
	}
}

// areWrong tells t where changes are right, or where something is told beside the false.
func areWrong(t *testing.T, l ...api.Change) {
	t.Helper()
	was := slices.Clone(l)
	if got, ok := change.To(l); ok || len(got) != 0 || change.Right(l) {
		t.Errorf("%s: %s, %t, %t", brief(l), brief(got), ok, change.Right(l))
	}
	if !slices.Equal(l, was) {
		t.Errorf("%s was changed to %s", brief(was), brief(l))
	}
}

// agreesOnEntries tells t where From does not tell what the model tells.
func agreesOnEntries(t *testing.T, l []api.Entry) {
	t.Helper()
	if want, err := modelFrom(l); err == api.OK {
		comesTo(t, l, want...)
	} else {
		refuses(t, err, l...)
	}
}

// agreesOnChanges tells t where To and Right do not tell what the model tells.
func agreesOnChanges(t *testing.T, l []api.Change) {
	t.Helper()
	if want, ok := modelTo(l); ok {
		makes(t, l, want...)
	} else {
		areWrong(t, l...)
	}
}

// isAhead tells t where Less does not tell that of a and b.
func isAhead(t *testing.T, a, b api.Change, want bool) {
	t.Helper()
	if got := change.Less(a, b); got != want {
		t.Errorf("%s, %s: %t", brief(a), brief(b), got)
	}
}

// has tells t where changes have another number of bytes.
func has(t *testing.T, want int, l ...api.Change) {
	t.Helper()
	if got := change.Bytes(l); got != want {
		t.Errorf("%s: %d, not %d", brief(l), got, want)
	}
}
