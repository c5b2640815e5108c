package paths_test

import (
	"path"
	"slices"
	"strings"
	"testing"

	"onionskin/api"
	"onionskin/paths"
)

// Parts that just fit, and one byte more, and such with a mark ahead.
var (
	full     = strings.Repeat("n", 251)
	over     = strings.Repeat("n", 252)
	fullMark = ".wh." + full
	overMark = ".wh." + over
)

// numbers are ops: the three, and such as are none.
var numbers = []int{api.OpPut, api.OpWhite, api.OpOpaque, -1, -2, 3, 4, 7, 256, 257, 258, 1 << 32, 1<<32 + 1, 1<<32 + 2, api.MaxInt, api.MinInt, api.MinInt + 1, api.MinInt + 2}

// brief is s, as far as it can be told.
func brief(s string) string {
	if len(s) > 120 {
		return s[:60] + " .. " + s[len(s)-60:]
	}
	return s
}

// fill is parts of together n bytes, with the slashes between, none of more than size.
func fill(n, size int) string {
	var l []string
	for n > size {
		part := min(size, n-2)
		l = append(l, strings.Repeat("b", part))
		n -= part + 1
	}
	return strings.Join(append(l, strings.Repeat("b", n)), "/")
}

// deep is a text of n bytes of which last is the end, and whose other parts have at most size bytes.
func deep(n, size int, last string) string {
	s := fill(n-len(last)-1, size) + "/" + last
	if len(s) != n {
		panic(n)
	}
	return s
}

// mixes are all texts of up to so many signs.
func mixes(count int, signs ...string) []string {
	l := []string{""}
	begin := 0
	for range count {
		end := len(l)
		for _, s := range l[begin:end] {
			for _, sign := range signs {
				l = append(l, s+sign)
			}
		}
		begin = end
	}
	slices.Sort(l)
	return slices.Compact(l)
}

// modelParts is the parts of a text that stands for a row of them: none of the root.
func modelParts(s string) []string {
	if s == "" {
		return nil
	}
	return strings.Split(s, "/")
}

// modelIsPath is whether p is a path: one with a mark may have the mark's bytes more.
func modelIsPath(p string) bool {
	l := strings.Split(p, "/")
	behind := len(l) - 1
	free := 0
	if strings.HasPrefix(l[behind], ".wh.") {
		free = 4
	}
	for k, part := range l {
		size := len(part)
		if k == behind {
			size -= free
		}
		if part == "" || part == "." || part == ".." || strings.Contains(part, "\x00") || size > 251 {
			return false
		}
	}
	return len(p)-free <= 4092
}

// modelClean is Clean, told by other hands.
func modelClean(s string) (string, bool) {
	if slices.Contains(strings.Split(s, "/"), "..") {
		return "", false
	}
	p := path.Clean("/" + s)[1:]
	if !modelIsPath(p) {
		return "", false
	}
	return p, true
}

// modelCompare is Compare, by the parts.
func modelCompare(a, b string) int {
	return slices.Compare(modelParts(a), modelParts(b))
}

// modelParent is Parent, by the parts.
func modelParent(p string) string {
	l := strings.Split(p, "/")
	return strings.Join(l[:len(l)-1], "/")
}

// modelUnder is Under, by the parts: q has those of p, and more.
func modelUnder(p, q string) bool {
	up, down := modelParts(p), modelParts(q)
	return len(up) < len(down) && slices.Equal(up, down[:len(up)])
}

// modelMark is Mark, by the parts.
func modelMark(p string) (int, string, bool) {
	if !modelIsPath(p) {
		return 0, "", false
	}
	l := strings.Split(p, "/")
	behind := len(l) - 1
	switch name := l[behind]; {
	case !strings.HasPrefix(name, ".wh."):
		return 0, p, true
	case name == ".wh..wh..opq":
		return 2, strings.Join(l[:behind], "/"), true
	case name == ".wh." || name == ".wh.." || name == ".wh..." || strings.HasPrefix(name, ".wh..wh."):
		return 0, "", false
	default:
		l[behind] = name[4:]
		return 1, strings.Join(l, "/"), true
	}
}

// modelUnmark is Unmark, by what may be marked: any path that is not marked, and for what is below it all that may stand ahead of a part.
func modelUnmark(op int, p string) (string, bool) {
	l := strings.Split(p, "/")
	behind := len(l) - 1
	isPlain := modelIsPath(p) && !strings.HasPrefix(l[behind], ".wh.")
	switch {
	case op == 0 && isPlain:
		return p, true
	case op == 1 && isPlain:
		l[behind] = ".wh." + l[behind]
		return strings.Join(l, "/"), true
	case op == 2 && p == "":
		return ".wh..wh..opq", true
	case op == 2 && modelIsPath(p) && len(l[behind]) <= 251 && len(p) <= 4083:
		return p + "/.wh..wh..opq", true
	}
	return "", false
}

// cleans tells t where s is not clean as want.
func cleans(t *testing.T, s, want string) {
	t.Helper()
	if p, ok := paths.Clean(s); p != want || !ok {
		t.Errorf("%q: %q, %t, not %q", brief(s), brief(p), ok, brief(want))
	}
}

// noPath tells t where s is clean, or where something is told beside the false.
func noPath(t *testing.T, s string) {
	t.Helper()
	if p, ok := paths.Clean(s); p != "" || ok {
		t.Errorf("%q: %q, %t, not none", brief(s), brief(p), ok)
	}
}

// marks tells t where Mark does not tell op and want of p, or Unmark does not make p of them.
func marks(t *testing.T, p string, op int, want string) {
	t.Helper()
	if gotOp, got, ok := paths.Mark(p); gotOp != op || got != want || !ok {
		t.Errorf("%q: %d, %q, %t, not %d, %q", brief(p), gotOp, brief(got), ok, op, brief(want))
	}
	if got, ok := paths.Unmark(op, want); got != p || !ok {
		t.Errorf("%d, %q: %q, %t, not %q", op, brief(want), brief(got), ok, brief(p))
	}
}

// noMark tells t where Mark tells something of p, or something beside the false.
func noMark(t *testing.T, p string) {
	t.Helper()
	if op, got, ok := paths.Mark(p); op != 0 || got != "" || ok {
		t.Errorf("%q: %d, %q, %t, not none", brief(p), op, brief(got), ok)
	}
}

// noUnmark tells t where Unmark makes something of op and p, or something beside the false.
func noUnmark(t *testing.T, op int, p string) {
	t.Helper()
	if got, ok := paths.Unmark(op, p); got != "" || ok {
		t.Errorf("%d, %q: %q, %t, not none", op, brief(p), brief(got), ok)
	}
}

// agreesOn tells t where what is told of one text is not what the models tell of it, or does not come back (P15.4).
func agreesOn(t *testing.T, s string) {
	t.Helper()
	if want, ok := modelClean(s); ok {
		cleans(t, s, want)
		cleans(t, want, want)
	} else {
		noPath(t, s)
	}
	if p := paths.Parent(s); p != modelParent(s) {
		t.Errorf("%q: %q, not %q", brief(s), brief(p), brief(modelParent(s)))
	}
	if op, want, ok := modelMark(s); ok {
		marks(t, s, op, want)
	} else {
		noMark(t, s)
	}
	for _, op := range numbers {
		if want, ok := modelUnmark(op, s); ok {
			marks(t, want, op, s)
		} else {
			noUnmark(t, op, s)
		}
	}
}

// agreesOnBoth tells t where what is told of two texts is not what the models tell of them.
func agreesOnBoth(t *testing.T, a, b string) {
	t.Helper()
	if n := paths.Compare(a, b); n != modelCompare(a, b) {
		t.Errorf("%q, %q: %d, not %d", brief(a), brief(b), n, modelCompare(a, b))
	}
	if ok := paths.Under(a, b); ok != modelUnder(a, b) {
		t.Errorf("%q, %q: %t, not %t", brief(a), brief(b), ok, modelUnder(a, b))
	}
}
