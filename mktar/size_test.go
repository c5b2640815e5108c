package mktar

import (
	"slices"
	"strconv"
	"testing"

	"onionskin/api"
)

// P9.3: data of the greatest size that fits eleven octal digits, and beyond. (Its size is told from within: data of 2^33 bytes takes more memory than a test should.)
func TestTheGreatestSizes(t *testing.T) {
	e := api.Entry{Path: "a", Node: api.Node{Uid: 1 << 21, Mtime: 1 << 33}}
	around := func(size ...api.Pair) []api.Pair {
		return slices.Concat([]api.Pair{{Key: "mtime", Value: "8589934592"}}, size, []api.Pair{{Key: "uid", Value: "2097152"}})
	}
	for _, size := range []int{0, 1, 512, 1<<21 - 1, 1 << 21, 1<<31 - 1, 1 << 31, 1 << 32, 1<<33 - 2, 1<<33 - 1} {
		if h, extras := tell(e, size); h != (api.Header{Name: "a", Size: size, Type: '0'}) || !slices.Equal(extras, around()) {
			t.Errorf("%d: %+v, %q", size, h, extras)
		}
	}
	for _, size := range []int{1 << 33, 1<<33 + 1, 1 << 34, 1 << 56, 1 << 62} {
		want := around(api.Pair{Key: "size", Value: strconv.Itoa(size)})
		if h, extras := tell(e, size); h != (api.Header{Name: "a", Type: '0'}) || !slices.Equal(extras, want) {
			t.Errorf("%d: %+v, %q, not %q", size, h, extras, want)
		}
	}
}

// P9.3: an extra that is a size, among all others.
func TestSizeAmongAllExtras(t *testing.T) {
	long := string(make([]byte, 100)) + "x"
	e := api.Entry{Path: long, Node: api.Node{Kind: api.KindSym, Link: long, Uid: 1 << 21, Gid: 1 << 22, Mtime: 1 << 33, Attrs: "20 SCHILY.xattr.z=1\n"}}
	want := []api.Pair{{Key: "SCHILY.xattr.z", Value: "1"}, {Key: "gid", Value: "4194304"}, {Key: "linkpath", Value: long}, {Key: "mtime", Value: "8589934592"}, {Key: "path", Value: long}, {Key: "size", Value: "8589934593"}, {Key: "uid", Value: "2097152"}}
	if h, extras := tell(e, 1<<33+1); h != (api.Header{Name: long[:100], Link: long[:100], Type: '2'}) || !slices.Equal(extras, want) {
		t.Errorf("%+v, %q", h, extras)
	}
}
