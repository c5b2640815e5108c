package paths

import (
	"strings"

	"onionskin/api"
)

const (
	mark   = ".wh."               // what the last part of a marked path begins with
	opaque = mark + mark + ".opq" // the last part that speaks of all that is below its Parent
)

// Mark is what the path p does, to which path, and whether there is such a thing.
func Mark(p string) (int, string, bool) {
	if !isPath(p) {
		return 0, "", false
	}
	name, isMarked := strings.CutPrefix(last(p), mark)
	if !isMarked {
		return api.OpPut, p, true
	}
	if last(p) == opaque {
		return api.OpOpaque, Parent(p), true
	}
	if !isName(name) || strings.HasPrefix(name, mark) {
		return 0, "", false
	}
	return api.OpWhite, join(Parent(p), name), true
}

// Unmark is the path of which Mark tells op and p, and whether there is one.
func Unmark(op int, p string) (string, bool) {
	s := p
	switch op {
	case api.OpWhite:
		s = join(Parent(p), mark+last(p))
	case api.OpOpaque:
		s = join(p, opaque)
	}
	// What was laid so need not be a path, nor one that speaks of p.
	toldOp, told, ok := Mark(s)
	if !ok || toldOp != op || told != p {
		return "", false
	}
	return s, true
}
