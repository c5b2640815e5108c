package mktar_test

import (
	"archive/tar"
	"bytes"
	"fmt"
	"io"
	"math/big"
	"regexp"
	"slices"
	"sort"
	"strconv"
	"strings"
	"testing"
	"time"

	"onionskin/api"
	"onionskin/header"
	"onionskin/mktar"
	"onionskin/pax"
	"onionskin/untar"
)

// end is the two blocks that an archive ends with.
var end = strings.Repeat("\x00", 1024)

// The kinds of nodes, and the types that they have in headers.
var types = map[int]string{api.KindFile: "0", api.KindHard: "1", api.KindSym: "2", api.KindChar: "3", api.KindBlock: "4", api.KindDir: "5", api.KindFifo: "6"}

// The ends of what fits fields without extras, and of what may be at all.
const (
	lastID, lastLong, lastDevice = 2097151, 8589934591, 72057594037927935
	lastNumber                   = 4611686018427387904
)

// isLink and isDevice are what a kind is.
func isLink(kind int) bool   { return kind == api.KindSym || kind == api.KindHard }
func isDevice(kind int) bool { return kind == api.KindChar || kind == api.KindBlock }

// padded is s in whole blocks, with bytes 0 behind it.
func padded(s string) string { return s + strings.Repeat("\x00", (512-len(s)%512)%512) }

// field is s in so many bytes, with bytes 0 behind it.
func field(s string, size int) string {
	if len(s) > size {
		panic("a text that does not fit its field")
	}
	return s + strings.Repeat("\x00", size-len(s))
}

// number is a number's field, told by other hands.
func number(n, size int) string {
	if s := fmt.Sprintf("%0*o", size-1, n); len(s) < size {
		return s + "\x00"
	}
	b := big.NewInt(int64(n)).FillBytes(make([]byte, size))
	if b[0] != 0 {
		panic("a number that does not fit its field")
	}
	b[0] = 0x80
	return string(b)
}

// head is a header's block, told by other hands.
func head(name, kind, link string, mode, uid, gid, size, mtime, major, minor int) string {
	ahead := field(name, 100) + number(mode, 8) + number(uid, 8) + number(gid, 8) + number(size, 12) + number(mtime, 12)
	behind := kind + field(link, 100) + "ustar\x0000" + field("", 64) + number(major, 8) + number(minor, 8) + field("", 167)
	sum := 0
	for _, v := range []byte(ahead + "        " + behind) {
		sum += int(v)
	}
	return ahead + fmt.Sprintf("%06o\x00 ", sum) + behind
}

// record is a record, the length of which is counted up.
func record(key, value string) string {
	text := " " + key + "=" + value + "\n"
	size := len(text)
	for len(strconv.Itoa(size))+len(text) != size {
		size++
	}
	return strconv.Itoa(size) + text
}

// records is records from a list of keys and values, one behind the other.
func records(texts ...string) string {
	var s strings.Builder
	for k := 0; k < len(texts); k += 2 {
		s.WriteString(record(texts[k], texts[k+1]))
	}
	return s.String()
}

// extras is the header of these records, and they, in whole blocks.
func extras(s string) string { return head("pax", "x", "", 0, 0, 0, len(s), 0, 0, 0) + padded(s) }

// modelBytes is the bytes of an entry, told by other hands: all extras that there may be are sorted by their keys.
func modelBytes(e api.Entry) string {
	n := e.Node
	byKey := map[string]string{}
	texts := map[string]string{"path": e.Path, "linkpath": n.Link}
	for key, s := range texts {
		if len(s) > 100 {
			byKey[key], texts[key] = s, s[:100]
		}
	}
	numbers := map[string]int{"uid": n.Uid, "gid": n.Gid, "size": len(n.Data), "mtime": n.Mtime}
	for key, v := range numbers {
		if digits := len(strconv.FormatInt(int64(v), 8)); digits > 11 || digits > 7 && (key == "uid" || key == "gid") {
			byKey[key], numbers[key] = fmt.Sprint(v), 0
		}
	}
	attrs, err := pax.Parse([]byte(n.Attrs))
	if err != api.OK {
		panic("an entry that is not right")
	}
	for _, p := range attrs {
		byKey[p.Key] = p.Value
	}
	var keys []string
	for key := range byKey {
		keys = append(keys, key)
	}
	sort.Strings(keys)
	var l []string
	for _, key := range keys {
		l = append(l, key, byKey[key])
	}
	x := records(l...)
	if x != "" {
		x = extras(x)
	}
	return x + head(texts["path"], types[n.Kind], texts["linkpath"], n.Mode, numbers["uid"], numbers["gid"], numbers["size"], numbers["mtime"], n.Major, n.Minor) + padded(n.Data)
}

var attrKey = regexp.MustCompile(`(?s)^SCHILY\.xattr\.[^=]*$`)

// modelAttrs is whether attributes may be, told by other hands.
func modelAttrs(s string) bool {
	l, err := pax.Parse([]byte(s))
	var keys []string
	for _, p := range l {
		if !attrKey.MatchString(p.Key) {
			return false
		}
		keys = append(keys, p.Key)
	}
	return err == api.OK && sort.StringsAreSorted(keys)
}

// modelRight is Right, told by other hands.
func modelRight(e api.Entry) api.Errno {
	n := e.Node
	if len(e.Path) < 1 || len(e.Path) > 4096 || strings.Contains(e.Path, "\x00") {
		return api.ErrPath
	}
	_, kind := types[n.Kind]
	wrong := []bool{
		!kind,
		n.Mode < 0 || n.Mode >= 4096,
		min(n.Uid, n.Gid, n.Mtime) < 0 || max(n.Uid, n.Gid, n.Mtime) > lastNumber,
		len(n.Link) > 4096 || strings.Contains(n.Link, "\x00"),
		n.Link != "" && !isLink(n.Kind),
		n.Data != "" && n.Kind != api.KindFile,
		min(n.Major, n.Minor) < 0 || max(n.Major, n.Minor) > lastDevice,
		(n.Major != 0 || n.Minor != 0) && !isDevice(n.Kind),
		!modelAttrs(n.Attrs),
	}
	if slices.Contains(wrong, true) {
		return api.ErrArg
	}
	return api.OK
}

// modelWrite is Write, told by other hands.
func modelWrite(l []api.Entry) (string, api.Errno) {
	for _, e := range l {
		if err := modelRight(e); err != api.OK {
			return "", err
		}
	}
	if len(l) > 1000 {
		return "", api.ErrFull
	}
	s := ""
	for _, e := range l {
		s += modelBytes(e)
	}
	return s + end, api.OK
}

// show is entries as they are told, cut off where they are very many.
func show(l ...api.Entry) string { return fmt.Sprintf("%.600q", fmt.Sprintf("%+v", l)) }

// brief is an archive as it is told: of bytes that stand there many times, the first ones.
func brief(s string) string {
	var b []byte
	for k := range min(len(s), 100000) {
		if k < 4 || s[k-4:k] != strings.Repeat(s[k:k+1], 4) {
			b = append(b, s[k])
		}
	}
	return fmt.Sprintf("%d bytes: %.1500q", len(s), b)
}

// writes tells t where entries are not written as these bytes, or where these are not read as they were.
func writes(t *testing.T, want string, l ...api.Entry) {
	t.Helper()
	b, err := mktar.Write(l)
	if string(b) != want || err != api.OK {
		t.Errorf("%s: %v, %s, not %s", show(l...), err, brief(string(b)), brief(want))
	}
	if back, err := untar.Read(b); !slices.Equal(back, l) || err != api.OK {
		t.Errorf("%s: read as %s, %v", show(l...), show(back...), err)
	}
}

// right tells t where an entry is not Right, or not written as the model writes it, alone and among others.
func right(t *testing.T, e api.Entry) {
	t.Helper()
	if err := mktar.Right(e); err != api.OK {
		t.Errorf("%s: %v", show(e), err)
		return
	}
	one, a, z := modelBytes(e), plain("a", "b"), api.Entry{Path: "z", Node: api.Node{Kind: api.KindDir, Uid: 1 << 30}}
	writes(t, one+end, e)
	writes(t, modelBytes(a)+one+one+modelBytes(z)+one+end, a, e, e, z, e)
}

// wrong tells t where an entry is not refused by that error, alone and among others.
func wrong(t *testing.T, e api.Entry, want api.Errno) {
	t.Helper()
	if err := mktar.Right(e); err != want {
		t.Errorf("%s: %v, not %v", show(e), err, want)
	}
	for _, l := range [][]api.Entry{{e}, {plain("a", "b"), e}, {e, plain("a", "b")}, {plain("a", ""), plain("b", ""), e, e}} {
		if b, err := mktar.Write(l); len(b) != 0 || err != want {
			t.Errorf("%s: %d bytes, %v, not %v", show(l...), len(b), err, want)
		}
	}
}

// asModel tells t where entries are not written as the model writes them.
func asModel(t *testing.T, l ...api.Entry) {
	t.Helper()
	for _, e := range l {
		if got, want := mktar.Right(e), modelRight(e); got != want {
			t.Errorf("%s: %v, not %v", show(e), got, want)
		}
	}
	want, err := modelWrite(l)
	if b, e := mktar.Write(l); string(b) != want || e != err {
		t.Errorf("%s: %v, %s, not %v, %s", show(l...), e, brief(string(b)), err, brief(want))
	}
}

// plain is the entry of a file.
func plain(path, data string) api.Entry { return api.Entry{Path: path, Node: api.Node{Data: data}} }

// at is an entry of a kind at a.
func at(kind int, n api.Node) api.Entry {
	n.Kind = kind
	return api.Entry{Path: "a", Node: n}
}

// mixed is an entry of each kind, with extras and without, and their archive, written down.
func mixed() ([]api.Entry, string) {
	long := strings.Repeat("0123456789", 13)
	data := strings.Repeat("x", 600)
	l := []api.Entry{
		{Path: "a/b", Node: api.Node{Mode: 0o644, Uid: 1, Gid: 2, Mtime: 3, Data: "hello"}},
		{Path: "d/", Node: api.Node{Kind: api.KindDir, Mode: 0o1755, Mtime: lastLong}},
		{Path: long, Node: api.Node{Data: data, Attrs: "25 SCHILY.xattr.user.a=1\n25 SCHILY.xattr.user.b=2\n"}},
		{Path: "s", Node: api.Node{Kind: api.KindSym, Mode: 0o777, Link: "../" + long, Uid: lastID + 1, Gid: lastID}},
		{Path: "h", Node: api.Node{Kind: api.KindHard, Link: "a/b", Attrs: "24 SCHILY.xattr.zz=z\nz\n\n"}},
		{Path: "c", Node: api.Node{Kind: api.KindChar, Major: 5, Minor: lastDevice, Gid: lastNumber}},
		{Path: "b", Node: api.Node{Kind: api.KindBlock, Major: lastID + 1, Minor: 8, Mtime: lastLong + 1}},
		{Path: "f", Node: api.Node{Kind: api.KindFifo, Mode: 0o7777}},
	}
	return l, head("a/b", "0", "", 0o644, 1, 2, 5, 3, 0, 0) + padded("hello") +
		head("d/", "5", "", 0o1755, 0, 0, 0, lastLong, 0, 0) +
		extras("25 SCHILY.xattr.user.a=1\n25 SCHILY.xattr.user.b=2\n140 path="+long+"\n") + head(long[:100], "0", "", 0, 0, 0, 600, 0, 0, 0) + padded(data) +
		extras("147 linkpath=../"+long+"\n15 uid=2097152\n") + head("s", "2", "../"+long[:97], 0o777, 0, lastID, 0, 0, 0, 0) +
		extras("24 SCHILY.xattr.zz=z\nz\n\n") + head("h", "1", "a/b", 0, 0, 0, 0, 0, 0, 0) +
		extras("27 gid=4611686018427387904\n") + head("c", "3", "", 0, 0, 0, 0, 0, 5, lastDevice) +
		extras("20 mtime=8589934592\n") + head("b", "4", "", 0, 0, 0, 0, 0, lastID+1, 8) +
		head("f", "6", "", 0o7777, 0, 0, 0, 0, 0, 0) + end
}

// P9.2, P9.3: an archive of all kinds, and each entry of it alone.
func TestWrite(t *testing.T) {
	l, want := mixed()
	writes(t, want, l...)
	if s, err := modelWrite(l); s != want || err != api.OK {
		t.Errorf("the model writes %v, %s, not %s", err, brief(s), brief(want))
	}
	for _, e := range l {
		right(t, e)
	}
}

// P9.2: no entries.
func TestNoEntries(t *testing.T) {
	some, _ := mixed()
	for _, l := range [][]api.Entry{nil, {}, some[:0]} {
		if b, err := mktar.Write(l); string(b) != end || err != api.OK {
			t.Errorf("%s, %v", brief(string(b)), err)
		}
	}
}

// P9.2, P9.3: each byte of an archive of a file that has an attribute, written down.
func TestEachByteWrittenDown(t *testing.T) {
	zeros := func(count int) string { return strings.Repeat("\x00", count) }
	want := "pax" + zeros(97) + "0000000\x000000000\x000000000\x00" + "00000000024\x00" + "00000000000\x00" + "010006\x00 " + "x" + zeros(100) + "ustar\x0000" + zeros(64) + "0000000\x000000000\x00" + zeros(167) +
		"20 SCHILY.xattr.k=v\n" + zeros(492) +
		"f" + zeros(99) + "0000644\x000001750\x000000144\x00" + "00000000003\x00" + "14524770400\x00" + "007436\x00 " + "0" + zeros(100) + "ustar\x0000" + zeros(64) + "0000000\x000000000\x00" + zeros(167) +
		"abc" + zeros(509) + zeros(1024)
	writes(t, want, api.Entry{Path: "f", Node: api.Node{Mode: 0o644, Uid: 1000, Gid: 100, Mtime: 1700000000, Data: "abc", Attrs: "20 SCHILY.xattr.k=v\n"}})
}

// P9.1 to P9.3: each kind with nothing else, and what is no kind.
func TestKinds(t *testing.T) {
	for kind, digit := range types {
		right(t, at(kind, api.Node{}))
		b, _ := mktar.Write([]api.Entry{at(kind, api.Node{})})
		if len(b) != 1536 || b[156] != digit[0] {
			t.Errorf("%d: %s, not of type %s", kind, brief(string(b)), digit)
		}
	}
	for kind := -300; kind <= 300; kind++ {
		asModel(t, at(kind, api.Node{}))
		if err := mktar.Right(at(kind, api.Node{})); (err == api.OK) != (kind >= 0 && kind <= 6) {
			t.Error(kind, err)
		}
	}
	for _, kind := range []int{-1, 7, 8, 48, 256, 1 << 32, -1 << 32, api.MinInt, api.MinInt + 1, api.MaxInt} {
		wrong(t, at(kind, api.Node{}), api.ErrArg)
		wrong(t, api.Entry{Node: api.Node{Kind: kind}}, api.ErrPath)
	}
}

// texts are texts that a path and a link may be.
func texts() []string {
	l := []string{"/", ".", "..", "a/b", "a/", "//", " ", "\n", "=", "a=b", "\x01", "\xff", "\xff\xfe", "\u00e9", "pax", "1 a=b\n", "\x80"}
	for _, size := range []int{1, 2, 99, 100, 101, 102, 154, 155, 156, 255, 256, 257, 511, 512, 513, 1000, 4094, 4095, 4096} {
		l = append(l, strings.Repeat("p", size), strings.Repeat("dir/", 1024)[:size], strings.Repeat("\u20ac", 2000)[:size], strings.Repeat("\xff", size), strings.Repeat(" ", size))
	}
	return l
}

// wrongTexts are texts that neither a path nor a link may be.
func wrongTexts() []string {
	l := []string{"\x00", "a\x00", "\x00a", "a\x00b", "\x00\x00", strings.Repeat("a", 99) + "\x00", strings.Repeat("a", 100) + "\x00", strings.Repeat("a", 4095) + "\x00", "\x00" + strings.Repeat("a", 4095), strings.Repeat("\x00", 4096), strings.Repeat("a", 4096) + "\x00"}
	for _, size := range []int{4097, 4098, 5000, 8192, 1 << 16, 1<<16 + 1, 1 << 20} {
		l = append(l, strings.Repeat("p", size), strings.Repeat("\u20ac", size)[:size])
	}
	return l
}

// P9.1 to P9.3: paths.
func TestPaths(t *testing.T) {
	for _, s := range texts() {
		for kind := range types {
			right(t, api.Entry{Path: s, Node: api.Node{Kind: kind}})
		}
	}
	for _, s := range append(wrongTexts(), "") {
		for kind := range types {
			wrong(t, api.Entry{Path: s, Node: api.Node{Kind: kind}}, api.ErrPath)
		}
	}
	// A byte 0 at each place.
	for _, size := range []int{1, 2, 50, 100, 101, 4096} {
		for place := range size {
			s := []byte(strings.Repeat("p", size))
			s[place] = 0
			if err := mktar.Right(plain(string(s), "")); err != api.ErrPath {
				t.Errorf("a byte 0 at %d of %d: %v", place, size, err)
			}
		}
	}
}

// P9.1 to P9.3: links of links, and of what is none.
func TestLinks(t *testing.T) {
	for kind := range types {
		right(t, at(kind, api.Node{Link: ""}))
		for _, s := range texts() {
			if isLink(kind) {
				right(t, at(kind, api.Node{Link: s}))
				right(t, api.Entry{Path: s, Node: api.Node{Kind: kind, Link: s}})
			} else {
				wrong(t, at(kind, api.Node{Link: s}), api.ErrArg)
			}
		}
		for _, s := range wrongTexts() {
			wrong(t, at(kind, api.Node{Link: s}), api.ErrArg)
			wrong(t, api.Entry{Path: s, Node: api.Node{Kind: kind, Link: s}}, api.ErrPath)
		}
	}
	for _, size := range []int{1, 2, 100, 101, 4096} {
		for place := range size {
			s := []byte(strings.Repeat("p", size))
			s[place] = 0
			if err := mktar.Right(at(api.KindSym, api.Node{Link: string(s)})); err != api.ErrArg {
				t.Errorf("a byte 0 at %d of %d: %v", place, size, err)
			}
		}
	}
}

// P9.3: a path and a link of every size around the field's.
func TestSizesOfTexts(t *testing.T) {
	for size := 1; size <= 1200; size++ {
		s := strings.Repeat("0123456789", 120)[:size]
		path, link := plain(s, "x"), at(api.KindHard, api.Node{Link: s})
		wantPath, wantLink := head(s[:min(size, 100)], "0", "", 0, 0, 0, 1, 0, 0, 0)+padded("x"), head("a", "1", s[:min(size, 100)], 0, 0, 0, 0, 0, 0, 0)
		if size > 100 {
			wantPath, wantLink = extras(record("path", s))+wantPath, extras(record("linkpath", s))+wantLink
		}
		writes(t, wantPath+wantLink+end, path, link)
	}
}

// P9.1, P9.3: modes.
func TestModes(t *testing.T) {
	for mode := range 4096 {
		writes(t, head("a", "5", "", mode, 0, 0, 0, 0, 0, 0)+end, at(api.KindDir, api.Node{Mode: mode}))
	}
	for kind := range types {
		right(t, at(kind, api.Node{Mode: 4095}))
		for _, mode := range []int{-1, 4096, 4097, 8191, 0o100644, 2097152, -4096, 1 << 32, 1<<32 + 0o644, lastNumber, api.MinInt, api.MinInt + 0o644, api.MaxInt} {
			wrong(t, at(kind, api.Node{Mode: mode}), api.ErrArg)
		}
	}
}

// place is where a node has the number of an extra.
func place(n *api.Node, key string) *int {
	return map[string]*int{"uid": &n.Uid, "gid": &n.Gid, "mtime": &n.Mtime}[key]
}

// P9.1 to P9.3: owners and times, which fit up to their last number.
func TestNumbers(t *testing.T) {
	numbers := []int{0, 1, 7, 8, 9, 1000, lastID - 1, lastID, lastID + 1, lastID + 2, 1 << 24, 1<<31 - 1, 1 << 31, 1<<32 - 1, 1 << 32, lastLong - 1, lastLong, lastLong + 1, lastLong + 2, 1 << 36, lastDevice, lastDevice + 1, lastNumber - 1, lastNumber}
	last := map[string]int{"uid": lastID, "gid": lastID, "mtime": lastLong}
	for key, most := range last {
		for kind := range types {
			for _, n := range numbers {
				e := at(kind, api.Node{Uid: 1, Gid: 2, Mtime: 3})
				*place(&e.Node, key) = n
				right(t, e)
				x, told := "", e.Node
				if n > most {
					x = extras(record(key, strconv.Itoa(n)))
					*place(&told, key) = 0
				}
				writes(t, x+head("a", types[kind], "", 0, told.Uid, told.Gid, 0, told.Mtime, 0, 0)+end, e)
			}
			for _, n := range []int{-1, -2, -lastID, -lastNumber, api.MinInt, api.MinInt + 1, lastNumber + 1, lastNumber + 2, lastNumber * 3 / 2, api.MaxInt - 1, api.MaxInt} {
				e := at(kind, api.Node{Uid: 1, Gid: 2, Mtime: 3})
				*place(&e.Node, key) = n
				wrong(t, e, api.ErrArg)
			}
		}
		// Each bit, and all bits below it.
		for bit := range 62 {
			for _, n := range []int{1 << bit, 1<<bit - 1, 1<<bit + 1} {
				e := at(api.KindFifo, api.Node{})
				*place(&e.Node, key) = n
				right(t, e)
			}
		}
	}
}

// P9.1, P9.3: devices' numbers, which fit 8 bytes, do not, or stand where there is no device.
func TestDevices(t *testing.T) {
	for kind := range types {
		for _, n := range []int{1, 2, 8, 255, lastID, lastID + 1, 1 << 32, lastLong, lastDevice - 1, lastDevice} {
			for _, node := range []api.Node{{Major: n}, {Minor: n}, {Major: n, Minor: n}, {Major: n, Minor: lastDevice - n}} {
				if isDevice(kind) {
					right(t, at(kind, node))
					writes(t, head("a", types[kind], "", 0, 0, 0, 0, 0, node.Major, node.Minor)+end, at(kind, node))
				} else {
					wrong(t, at(kind, node), api.ErrArg)
				}
			}
		}
		for _, n := range []int{-1, -8, lastDevice + 1, lastDevice + 2, 1 << 57, lastNumber, lastNumber + 1, 1 << 56 * 3, api.MaxInt, api.MinInt, api.MinInt + 1} {
			for _, node := range []api.Node{{Major: n}, {Minor: n}, {Major: n, Minor: n}, {Major: 1, Minor: n}, {Major: n, Minor: 1}} {
				wrong(t, at(kind, node), api.ErrArg)
			}
		}
	}
}

// P9.1: data of something that is no file.
func TestDataOfOthers(t *testing.T) {
	for kind := range types {
		for _, data := range []string{"x", "\x00", strings.Repeat("x", 512), end} {
			if kind == api.KindFile {
				right(t, at(kind, api.Node{Data: data}))
			} else {
				wrong(t, at(kind, api.Node{Data: data}), api.ErrArg)
			}
		}
	}
}

// P9.2: data that fills its blocks wholly, and that does not.
func TestSizesOfData(t *testing.T) {
	for size := range 1600 {
		for _, v := range []string{"d", "\x00"} {
			data := strings.Repeat(v, size)
			blocks := (size + 511) / 512
			want := head("a", "0", "", 0, 0, 0, size, 0, 0, 0) + data + strings.Repeat("\x00", blocks*512-size)
			writes(t, want+want+end, plain("a", data), plain("a", data))
		}
	}
	for _, size := range []int{511, 512, 513, 1024, 1536, 1 << 16, 1<<16 + 1, lastID, lastID + 1} {
		right(t, plain("a", strings.Repeat("0123456789", size/10+1)[:size]))
		right(t, api.Entry{Path: strings.Repeat("p", 101), Node: api.Node{Data: strings.Repeat("\xff", size), Attrs: "20 SCHILY.xattr.k=v\n"}})
	}
}

// P9.2: extras that fill their blocks wholly, and that do not.
func TestSizesOfExtras(t *testing.T) {
	for size := 102; size < 1600; size++ {
		attrs := record("SCHILY.xattr.k", strings.Repeat("v", size))
		blocks := (len(attrs) + 511) / 512
		want := head("pax", "x", "", 0, 0, 0, len(attrs), 0, 0, 0) + attrs + strings.Repeat("\x00", blocks*512-len(attrs)) + head("a", "5", "", 0, 0, 0, 0, 0, 0, 0)
		writes(t, want+want+end, at(api.KindDir, api.Node{Attrs: attrs}), at(api.KindDir, api.Node{Attrs: attrs}))
	}
	// Whole blocks have nothing behind them.
	for _, size := range []int{512, 1024, 4096} {
		attrs := record("SCHILY.xattr.k", strings.Repeat("v", size-len(strconv.Itoa(size)+" SCHILY.xattr.k=\n")))
		if len(attrs) != size {
			t.Fatal(size, len(attrs))
		}
		if b, err := mktar.Write([]api.Entry{at(api.KindFile, api.Node{Attrs: attrs})}); len(b) != 1024+size+1024 || err != api.OK {
			t.Error(size, len(b), err)
		}
	}
}

// P9.2: data that looks like an end, a header or an archive.
func TestDataThatLooksLikeMore(t *testing.T) {
	_, inner := mixed()
	for _, data := range []string{end, end + end, inner, inner[:512], extras(record("path", "p")), padded("no header"), end[:512] + "x"} {
		right(t, plain("n", data))
	}
}

// P9.3: each set of extras, in the order of their keys, beside attributes and without.
func TestEachSetOfExtras(t *testing.T) {
	long, attrs := strings.Repeat("long/", 30), records("SCHILY.xattr.", "", "SCHILY.xattr.path", "1", "SCHILY.xattr.uid", "2", "SCHILY.xattr.zzz", "3", "SCHILY.xattr.\xff", "4")
	for set := range 64 {
		e, x := at(api.KindSym, api.Node{Link: "l"}), ""
		h := api.Header{Name: "a", Link: "l"}
		if set&1 != 0 {
			e.Node.Attrs = attrs
			x += attrs
		}
		if set&2 != 0 {
			e.Node.Gid = 3000000
			x += "15 gid=3000000\n"
		}
		if set&4 != 0 {
			e.Node.Link, h.Link = long, long[:100]
			x += "164 linkpath=" + long + "\n"
		}
		if set&8 != 0 {
			e.Node.Mtime = 9000000000
			x += "20 mtime=9000000000\n"
		}
		if set&16 != 0 {
			e.Path, h.Name = long, long[:100]
			x += "160 path=" + long + "\n"
		}
		if set&32 != 0 {
			e.Node.Uid = 4000000
			x += "15 uid=4000000\n"
		}
		want := head(h.Name, "2", h.Link, 0, 0, 0, 0, 0, 0, 0) + end
		if x != "" {
			want = extras(x) + want
		}
		writes(t, want, e)
	}
}

// P9.1, P9.3: attributes that may be.
func TestAttrs(t *testing.T) {
	for _, s := range []string{
		"",
		records("SCHILY.xattr.", ""),
		records("SCHILY.xattr.", "v"),
		records("SCHILY.xattr.a", "1", "SCHILY.xattr.b", "2"),
		records("SCHILY.xattr.B", "1", "SCHILY.xattr.a", "2"),
		records("SCHILY.xattr.", "1", "SCHILY.xattr.\x00", "2", "SCHILY.xattr.a", "3", "SCHILY.xattr.a\x00", "4", "SCHILY.xattr.a ", "5", "SCHILY.xattr.aa", "6", "SCHILY.xattr.b", "7"),
		records("SCHILY.xattr.10", "1", "SCHILY.xattr.2", "2"),
		records("SCHILY.xattr.z", "1", "SCHILY.xattr.\u00e9", "2", "SCHILY.xattr.\xff", "3"),
		records("SCHILY.xattr.SCHILY.xattr.a", "1"),
		records("SCHILY.xattr.gid", "x", "SCHILY.xattr.linkpath", "\x00", "SCHILY.xattr.mtime", "-1", "SCHILY.xattr.path", "", "SCHILY.xattr.size", "7", "SCHILY.xattr.uid", "01"),
		records("SCHILY.xattr.a", "b=c=\n=\x00\xff 12 x=y\n", "SCHILY.xattr.b\n", "\n"),
		records("SCHILY.xattr.a", strings.Repeat("\x00", 5000)),
		records("SCHILY.xattr."+strings.Repeat("k", 5000), strings.Repeat("v", 100000)),
	} {
		for kind := range types {
			right(t, at(kind, api.Node{Attrs: s}))
			right(t, api.Entry{Path: strings.Repeat("p", 101), Node: api.Node{Kind: kind, Uid: lastNumber, Attrs: s}})
		}
	}
	var many []string
	for k := range 20000 {
		many = append(many, fmt.Sprintf("SCHILY.xattr.%05d", k), strconv.Itoa(k))
	}
	right(t, at(api.KindFile, api.Node{Attrs: records(many...)}))
	many[2], many[4] = many[4], many[2]
	wrong(t, at(api.KindFile, api.Node{Attrs: records(many...)}), api.ErrArg)
}

// P9.1: attributes that are none, or not told in their one way.
func TestWrongAttrs(t *testing.T) {
	const one, two = "20 SCHILY.xattr.a=1\n", "20 SCHILY.xattr.b=2\n"
	for _, s := range []string{
		// No records.
		"x", " ", "\n", "\x00", "20", "SCHILY.xattr.a=1", one[:19], one[1:], one + "\x00", one + "\n", " " + one, one + "x", one + one[:19], "020 SCHILY.xattr.a=1\n", "+20 SCHILY.xattr.a=1\n", "21 SCHILY.xattr.a=1\n", "19 SCHILY.xattr.a=1\n", "20 SCHILY.xattr.a=1 ",
		"18 SCHILY.xattr.a\n", "17 SCHILY.xattr.\n", "20 =CHILY.xattr.a=1\n", "20\tSCHILY.xattr.a=1\n", strings.Repeat("x", 5000),
		// Keys that begin otherwise.
		"6 a=b\n", records("path", "p"), records("SCHILY.xattr", "1"), records("SCHILY.xatt", "1"), records("SCHILY.xattra", "1"), records("SCHILY.Xattr.a", "1"), records("schily.xattr.a", "1"), records(" SCHILY.xattr.a", "1"), records("xSCHILY.xattr.a", "1"), records("LIBARCHIVE.xattr.a", "1"), records("", "1"),
		one + "6 a=b\n", "6 a=b\n" + one, one + "6 a=b\n" + two, one + two + records("uid", "7"), records("comment", "") + one, records("SCHILY.xattr", "1") + one,
		// A key twice.
		one + one, one + "20 SCHILY.xattr.a=2\n", one + two + one, one + two + two, records("SCHILY.xattr.", "", "SCHILY.xattr.", ""), one + "6 a=b\n" + one,
		// Keys out of order.
		two + one, records("SCHILY.xattr.a", "1", "SCHILY.xattr.", "2"), records("SCHILY.xattr.aa", "1", "SCHILY.xattr.a", "2"), records("SCHILY.xattr.a", "1", "SCHILY.xattr.B", "2"), records("SCHILY.xattr.2", "1", "SCHILY.xattr.10", "2"),
		records("SCHILY.xattr.\xff", "1", "SCHILY.xattr.z", "2"), records("SCHILY.xattr.a", "1", "SCHILY.xattr.c", "2", "SCHILY.xattr.b", "3"), records("SCHILY.xattr.b", "1", "SCHILY.xattr.a", "2", "SCHILY.xattr.c", "3"), records("SCHILY.xattr.a\x00", "1", "SCHILY.xattr.a", "2"),
	} {
		if modelAttrs(s) {
			t.Errorf("the model takes %q", s)
		}
		for kind := range types {
			wrong(t, at(kind, api.Node{Attrs: s}), api.ErrArg)
		}
	}
}

// P9.1: all orders of some attributes, of which one may be.
func TestAttrsInEachOrder(t *testing.T) {
	l := []string{records("SCHILY.xattr.", "0"), records("SCHILY.xattr.a", "1"), records("SCHILY.xattr.a\x00", "2"), records("SCHILY.xattr.ab", "3"), records("SCHILY.xattr.b", "4")}
	fine := 0
	var turn func(from int)
	turn = func(from int) {
		if from == len(l) {
			asModel(t, at(api.KindFile, api.Node{Attrs: strings.Join(l, "")}))
			if mktar.Right(at(api.KindFile, api.Node{Attrs: strings.Join(l, "")})) == api.OK {
				fine++
			}
			return
		}
		for k := from; k < len(l); k++ {
			l[from], l[k] = l[k], l[from]
			turn(from + 1)
			l[from], l[k] = l[k], l[from]
		}
	}
	turn(0)
	if fine != 1 {
		t.Error(fine)
	}
}

// P9.1: each byte of attributes, changed, and attributes that break off.
func TestEachByteOfAttrs(t *testing.T) {
	s := records("SCHILY.xattr.a", "1", "SCHILY.xattr.b", "22")
	for k := range s {
		for v := range 256 {
			b := []byte(s)
			b[k] = byte(v)
			asModel(t, at(api.KindFile, api.Node{Attrs: string(b)}))
		}
		asModel(t, at(api.KindFile, api.Node{Attrs: s[:k]}), at(api.KindFile, api.Node{Attrs: s[k:]}))
	}
}

// faults are nodes with one thing each that is wrong beside the path, of each kind that may have it.
func faults() []api.Node {
	l := []api.Node{{Kind: -1}, {Kind: 7}, {Kind: api.MaxInt}}
	for kind := range types {
		l = append(l, api.Node{Kind: kind, Mode: 4096}, api.Node{Kind: kind, Mode: -1}, api.Node{Kind: kind, Uid: -1}, api.Node{Kind: kind, Gid: lastNumber + 1}, api.Node{Kind: kind, Mtime: -1}, api.Node{Kind: kind, Link: "\x00"}, api.Node{Kind: kind, Link: strings.Repeat("l", 4097)}, api.Node{Kind: kind, Major: -1}, api.Node{Kind: kind, Minor: lastDevice + 1}, api.Node{Kind: kind, Attrs: "x"})
		if !isLink(kind) {
			l = append(l, api.Node{Kind: kind, Link: "l"})
		}
		if !isDevice(kind) {
			l = append(l, api.Node{Kind: kind, Major: 1}, api.Node{Kind: kind, Minor: 1})
		}
		if kind != api.KindFile {
			l = append(l, api.Node{Kind: kind, Data: "d"})
		}
	}
	return l
}

// P9.1: a path that may not be is told ahead of all else that is wrong.
func TestOrderOfErrors(t *testing.T) {
	for _, n := range faults() {
		wrong(t, api.Entry{Path: "p", Node: n}, api.ErrArg)
		for _, path := range []string{"", "\x00", "a\x00", strings.Repeat("p", 4097)} {
			wrong(t, api.Entry{Path: path, Node: n}, api.ErrPath)
		}
	}
	all := api.Node{Kind: 7, Mode: -1, Uid: -1, Gid: -1, Mtime: -1, Link: "\x00", Data: "d", Major: -1, Minor: -1, Attrs: "x"}
	wrong(t, api.Entry{Path: "p", Node: all}, api.ErrArg)
	wrong(t, api.Entry{Node: all}, api.ErrPath)
}

// P9.2: the error of the first entry that is not Right.
func TestFirstError(t *testing.T) {
	path, arg, fine := plain("", ""), at(7, api.Node{}), plain("a", "b")
	for _, l := range [][]api.Entry{{path, arg}, {fine, path, arg}, {path, fine, arg}, {path, arg, path, arg}, {fine, fine, path, fine, arg}} {
		if b, err := mktar.Write(l); len(b) != 0 || err != api.ErrPath {
			t.Errorf("%s: %v", show(l...), err)
		}
	}
	for _, l := range [][]api.Entry{{arg, path}, {fine, arg, path}, {arg, fine, path}, {arg, path, arg, path}, {fine, fine, arg, fine, path}} {
		if b, err := mktar.Write(l); len(b) != 0 || err != api.ErrArg {
			t.Errorf("%s: %v", show(l...), err)
		}
	}
}

// P9.2: exactly as many entries as there may be, and more.
func TestFull(t *testing.T) {
	for _, e := range []api.Entry{plain("a", ""), plain("a", "b"), at(api.KindDir, api.Node{Uid: lastNumber, Attrs: records("SCHILY.xattr.k", "v")})} {
		l := slices.Repeat([]api.Entry{e}, 2500)
		for _, count := range []int{0, 1, 2, 998, 999, 1000} {
			writes(t, strings.Repeat(modelBytes(e), count)+end, l[:count]...)
		}
		for _, count := range []int{1001, 1002, 1999, 2000, 2500} {
			if b, err := mktar.Write(l[:count]); len(b) != 0 || err != api.ErrFull {
				t.Errorf("%d: %d bytes, %v", count, len(b), err)
			}
		}
	}
	// They are not held against each other: a path may stand there again, as may its extras.
	l, _ := mixed()
	asModel(t, slices.Repeat(l, 125)...)
	asModel(t, slices.Repeat(l, 126)...)
}

// P9.2: an entry that is not Right, wherever it is, is told ahead of there being too many.
func TestWrongAheadOfFull(t *testing.T) {
	for _, count := range []int{1000, 1001, 1002, 2000} {
		for _, k := range []int{0, 1, 500, 998, 999, 1000, 1001, 1500, count - 1} {
			if k >= count {
				continue
			}
			l := slices.Repeat([]api.Entry{plain("a", "")}, count)
			l[k].Path = ""
			if b, err := mktar.Write(l); len(b) != 0 || err != api.ErrPath {
				t.Errorf("%d of %d: %d bytes, %v", k, count, len(b), err)
			}
			l[k] = at(api.KindFile, api.Node{Mode: 4096})
			if b, err := mktar.Write(l); len(b) != 0 || err != api.ErrArg {
				t.Errorf("%d of %d: %d bytes, %v", k, count, len(b), err)
			}
			l[count-1].Path = ""
			if k < count-1 {
				if b, err := mktar.Write(l); len(b) != 0 || err != api.ErrArg {
					t.Errorf("%d of %d: %d bytes, %v", k, count, len(b), err)
				}
			}
		}
	}
}

// choices is the k-th mix of choices that matter, one for each field.
func choices(k int) api.Entry {
	pick := func(count int) int {
		at := k % count
		k /= count
		return at
	}
	long := strings.Repeat("n", 101)
	e := api.Entry{Path: []string{"a", long, "", "\x00"}[pick(4)]}
	e.Node.Kind = pick(8)
	e.Node.Mode = []int{0o644, 4096}[pick(2)]
	e.Node.Uid = []int{7, lastID + 1, -1}[pick(3)]
	e.Node.Mtime = []int{9, lastLong + 1, lastNumber + 1}[pick(3)]
	e.Node.Link = []string{"", "l", long, "\x00"}[pick(4)]
	e.Node.Data = []string{"", "data"}[pick(2)]
	e.Node.Major = []int{0, 1, lastDevice, lastDevice + 1}[pick(4)]
	e.Node.Attrs = []string{"", "20 SCHILY.xattr.a=1\n", "6 a=b\n"}[pick(3)]
	return e
}

// P9.1 to P9.3: all mixes of choices that matter to each other.
func TestMixes(t *testing.T) {
	fine := 0
	for k := range 4 * 8 * 2 * 3 * 3 * 4 * 2 * 4 * 3 {
		e := choices(k)
		want := modelRight(e)
		if got := mktar.Right(e); got != want {
			t.Errorf("%s: %v, not %v", show(e), got, want)
		}
		if want == api.OK {
			fine++
			writes(t, modelBytes(e)+end, e)
		}
	}
	if fine == 0 {
		t.Error("no mix is right")
	}
}

// rewritten tells t where what is read of s is not written, or not read as it was, or not written in one way then.
func rewritten(t *testing.T, s string) string {
	t.Helper()
	l, err := untar.Read([]byte(s))
	if err != api.OK {
		return ""
	}
	for _, e := range l {
		if err := mktar.Right(e); err != api.OK {
			t.Errorf("%s: %v of what was read", show(e), err)
		}
	}
	b, err := mktar.Write(l)
	if err != api.OK {
		t.Errorf("%s: %v of what was read", brief(s), err)
		return ""
	}
	back, err := untar.Read(b)
	if !slices.Equal(back, l) || err != api.OK {
		t.Errorf("%s: read as %s, written, and read as %s, %v", brief(s), show(l...), show(back...), err)
	}
	if again, err := mktar.Write(back); !bytes.Equal(again, b) || err != api.OK {
		t.Errorf("%s: written in another way: %s, %s", brief(s), brief(string(b)), brief(string(again)))
	}
	return string(b)
}

// P9.4: what is written is, when it is read, written as it was.
func TestWrittenAgain(t *testing.T) {
	_, s := mixed()
	for _, s := range []string{s, end} {
		for _, more := range []string{"", end, end + "\x00"} {
			if got := rewritten(t, s+more); got != s {
				t.Errorf("%s, not %s", brief(got), brief(s))
			}
		}
	}
}

// patched is a header's block with bytes at a place, and its sum.
func patched(s string, at int, bytes string) string {
	b := []byte(s)
	copy(b[at:], bytes)
	copy(b[148:], "        ")
	sum := 0
	for _, v := range b[:512] {
		sum += int(v)
	}
	copy(b[148:], fmt.Sprintf("%06o\x00 ", sum))
	return string(b)
}

// P9.4: one thing in ways that others write, all of which are read, and written in one way.
func TestOneWay(t *testing.T) {
	want := head("a/b", "0", "", 0o644, 8, 0, 3, 0, 0, 0) + padded("abc")
	attrs := extras(records("SCHILY.xattr.a", "1", "SCHILY.xattr.b", "2")) + want
	long := strings.Repeat("n", 90)
	cases := map[string][]string{
		want: {
			want,
			patched(want, 100, "0100644\x00"),
			patched(want, 100, "   644 \x00"),
			patched(want, 108, "\x80\x00\x00\x00\x00\x00\x00\x08"),
			patched(want, 108, "     10 "),
			patched(want, 124, "\x80\x00\x00\x00\x00\x00\x00\x00\x00\x00\x00\x03"),
			patched(want, 136, "            "),
			patched(want, 136, "\x00\x00\x00\x00\x00\x00\x00\x00\x00\x00\x00\x00"),
			patched(want, 156, "\x00"),
			patched(want, 157, "link"),
			patched(want, 265, "root"),
			patched(want, 297, "wheel"),
			patched(want, 329, "0000007\x000000001\x00"),
			patched(want, 500, "anything"),
			patched(patched(want, 0, "b\x00\x00"), 345, "a"),
			want[:512] + "abc" + strings.Repeat("x", 509),
			extras(record("path", "a/b")) + patched(want, 0, "else"),
			extras(records("uid", "8", "mtime", "0", "size", "3", "gid", "0")) + patched(patched(want, 108, "0000777\x00"), 124, "00000000777\x00"),
			extras(records("comment", "none", "uname", "root")) + want,
			extras("") + want,
			head("other", "x", "l", 1, 2, 3, len(record("path", "a/b")), 4, 5, 6) + padded(record("path", "a/b")) + want,
		},
		attrs: {
			attrs,
			extras(records("SCHILY.xattr.b", "2", "SCHILY.xattr.a", "1")) + want,
			extras(records("SCHILY.xattr.b", "2", "path", "a/b", "atime", "1", "SCHILY.xattr.a", "1")) + patched(want, 0, "else"),
		},
		extras(record("path", long+"/"+long)) + head((long + "/" + long)[:100], "0", "", 0, 0, 0, 0, 0, 0, 0): {
			patched(head(long, "0", "", 0, 0, 0, 0, 0, 0, 0), 345, long),
			extras(record("path", long+"/"+long)) + head("else", "0", "", 0, 0, 0, 0, 0, 0, 0),
		},
		extras(record("uid", "2097152")) + head("a", "5", "", 0, 0, 0, 0, lastLong, 0, 0): {
			head("a", "5", "", 0, 2097152, 0, 0, lastLong, 0, 0),
			extras(record("uid", "2097152")) + head("a", "5", "", 0, 5, 0, 0, lastLong, 0, 0),
			extras(record("mtime", "8589934591")) + head("a", "5", "", 0, 2097152, 0, 0, 0, 0, 0),
		},
		head("a", "3", "", 0, 0, 0, 0, 0, 1, 2): {patched(head("a", "3", "", 0, 0, 0, 0, 0, 0, 0), 329, "      1 \x80\x00\x00\x00\x00\x00\x00\x02")},
	}
	for want, forms := range cases {
		for k, s := range forms {
			if got := rewritten(t, s+end); got != want+end {
				t.Errorf("form %d: %s, not %s", k, brief(got), brief(want+end))
			}
			if got := rewritten(t, s+s+end+end); got != want+want+end {
				t.Errorf("form %d, twice: %s, not %s", k, brief(got), brief(want+want+end))
			}
		}
	}
}

// P9.4: each byte of an archive, changed: what is read of it is written.
func TestEachByteReadAndWritten(t *testing.T) {
	s := extras(records("SCHILY.xattr.a", "1", "path", "p", "uid", "4000000")) + head("a", "0", "", 0o644, 1, 2, 4, 3, 0, 0) + padded("data") + head("l", "2", "to", 0, 0, 0, 0, 0, 0, 0) + head("c", "3", "", 0, 0, 0, 0, 0, 1, 2)
	for k := range s {
		for _, v := range []byte{0, ' ', '3', 'a', 0x80} {
			b := []byte(s)
			b[k] = v
			rewritten(t, string(b)+end)
			if from := k / 512 * 512; k%512 < 148 || k%512 > 155 {
				// With the sum that the changed block has.
				rewritten(t, s[:from]+patched(string(b[from:]), 0, "")+end)
			}
		}
	}
}

// P9.1 to P9.4: what is written is read by other hands.
func TestReadByOthers(t *testing.T) {
	l, s := mixed()
	r := tar.NewReader(strings.NewReader(s))
	others := map[byte]int{tar.TypeReg: api.KindFile, tar.TypeDir: api.KindDir, tar.TypeSymlink: api.KindSym, tar.TypeLink: api.KindHard, tar.TypeChar: api.KindChar, tar.TypeBlock: api.KindBlock, tar.TypeFifo: api.KindFifo}
	for _, want := range l {
		h, err := r.Next()
		if err != nil {
			t.Fatal(err)
		}
		data, err := io.ReadAll(r)
		if err != nil {
			t.Fatal(err)
		}
		var attrs []api.Pair
		for key, value := range h.PAXRecords {
			attrs = append(attrs, api.Pair{Key: key, Value: value})
		}
		got := api.Entry{Path: h.Name, Node: api.Node{Kind: others[h.Typeflag], Mode: int(h.Mode), Uid: h.Uid, Gid: h.Gid, Mtime: int(h.ModTime.Unix()), Link: h.Linkname, Data: string(data), Major: int(h.Devmajor), Minor: int(h.Devminor), Attrs: untar.Attrs(attrs)}}
		if got != want {
			t.Errorf("%s, not %s", show(got), show(want))
		}
	}
	if _, err := r.Next(); err != io.EOF {
		t.Error(err)
	}
}

// P9.4: what other hands wrote, in each of their forms, is read and written in one way.
func TestWrittenByOthers(t *testing.T) {
	moment := time.Unix(1700000000, 0)
	want := ""
	for _, form := range []tar.Format{tar.FormatUnknown, tar.FormatUSTAR, tar.FormatPAX} {
		var room bytes.Buffer
		w := tar.NewWriter(&room)
		for _, h := range []tar.Header{
			{Typeflag: tar.TypeReg, Name: "a", Size: 4, Mode: 0o644, Uid: 5, Gid: 6, Uname: "root", ModTime: moment},
			{Typeflag: tar.TypeReg, Name: strings.Repeat("part/", 25) + "name", Size: 4, Mode: 0o600, ModTime: moment},
			{Typeflag: tar.TypeDir, Name: strings.Repeat("d/", 80), Mode: 0o1755, ModTime: moment},
			{Typeflag: tar.TypeSymlink, Name: "s", Linkname: strings.Repeat("l", 100), ModTime: moment},
			{Typeflag: tar.TypeLink, Name: "h", Linkname: "a", ModTime: moment, Uid: lastID, Gid: lastID},
			{Typeflag: tar.TypeChar, Name: "c", Devmajor: 5, Devminor: 6, ModTime: moment},
			{Typeflag: tar.TypeBlock, Name: "b", Devmajor: 7, Devminor: 8, ModTime: moment},
			{Typeflag: tar.TypeFifo, Name: "f", ModTime: moment},
		} {
			h.Format = form
			if err := w.WriteHeader(&h); err != nil {
				t.Fatal(form, err)
			}
			if h.Size > 0 {
				w.Write([]byte("data"))
			}
		}
		w.Close()
		got := rewritten(t, room.String())
		if want == "" {
			want = got
		}
		if got == "" || got != want {
			t.Errorf("%v: %s, not %s", form, brief(got), brief(want))
		}
	}
}

// P9.2, W6: what is answered does not hang on what was handed in any more, nor on other answers.
func TestAnswersAreApart(t *testing.T) {
	l, want := mixed()
	first, _ := mktar.Write(l)
	second, _ := mktar.Write(l)
	for k := range l {
		l[k] = plain("z", "z")
	}
	for k := range first[:cap(first)] {
		first[:cap(first)][k] = 'z'
	}
	if string(second) != want {
		t.Errorf("two answers share bytes: %s", brief(string(second)))
	}
	none, _ := mktar.Write(nil)
	for k := range none[:cap(none)] {
		none[:cap(none)][k] = 'z'
	}
	if none, _ := mktar.Write(nil); string(none) != end {
		t.Errorf("two ends share bytes: %s", brief(string(none)))
	}
	again, _ := mixed()
	writes(t, want, again...)
}

// W6: what is handed in is not changed, nor the room behind it, which does not count.
func TestWhatIsHandedInIsNotChanged(t *testing.T) {
	l, _ := mixed()
	kept := slices.Clone(l)
	for count := range len(l) + 1 {
		want, err := modelWrite(kept[:count])
		if b, e := mktar.Write(l[:count]); string(b) != want || e != err {
			t.Errorf("%d: %v, %s, not %v, %s", count, e, brief(string(b)), err, brief(want))
		}
		if !slices.Equal(l, kept) {
			t.Fatalf("%s, not %s", show(l...), show(kept...))
		}
	}
	// An entry that is not right behind those that count.
	room := []api.Entry{plain("a", "b"), plain("", "")}
	writes(t, modelBytes(room[0])+end, room[:1]...)
	if room[1] != plain("", "") {
		t.Error(show(room...))
	}
}

// W2: what was written before does not matter.
func TestTwiceTheSame(t *testing.T) {
	l, want := mixed()
	for range 3 {
		writes(t, want, l...)
		wrong(t, at(7, api.Node{}), api.ErrArg)
		wrong(t, plain("", ""), api.ErrPath)
		if b, err := mktar.Write(make([]api.Entry, 1001)); len(b) != 0 || err != api.ErrPath {
			t.Error(len(b), err)
		}
		writes(t, end)
	}
}

// P9.2: very much data.
func TestMuch(t *testing.T) {
	data := strings.Repeat("0123456789", 3000000)
	writes(t, head("a", "0", "", 0, 0, 0, len(data), 0, 0, 0)+padded(data)+head("b", "0", "", 0, 0, 0, len(data)-1, 0, 0, 0)+padded(data[1:])+end, plain("a", data), plain("b", data[1:]))
	long := strings.Repeat("\n", 5000000)
	right(t, at(api.KindFifo, api.Node{Attrs: record("SCHILY.xattr.k", long)}))
}

// W1, P9.1 to P9.4: entries, whatever they have, are written as other hands write them, and read as they were.
func FuzzWrite(f *testing.F) {
	f.Add("a", 0, 0o644, 0, 0, 0, "", "data", 0, 0, "")
	f.Add(strings.Repeat("p", 101), api.KindSym, 0, 1<<21, 1<<21-1, 1<<33, strings.Repeat("l", 120), "", 0, 0, "20 SCHILY.xattr.a=1\n")
	f.Add("c", api.KindChar, 4095, 1<<62, 0, 1<<62, "", "", 1<<56-1, 8, "20 SCHILY.xattr.a=1\n20 SCHILY.xattr.b=2\n")
	f.Add("", 7, 4096, -1, 1<<62+1, 0, "\x00", "x", -1, 1<<56, "20 SCHILY.xattr.b=1\n20 SCHILY.xattr.a=2\n")
	f.Fuzz(func(t *testing.T, path string, kind, mode, uid, gid, mtime int, link, data string, major, minor int, attrs string) {
		e := api.Entry{Path: path, Node: api.Node{Kind: kind, Mode: mode, Uid: uid, Gid: gid, Mtime: mtime, Link: link, Data: data, Major: major, Minor: minor, Attrs: attrs}}
		asModel(t, e)
		asModel(t, plain("a", "b"), e)
		// With numbers and attributes that may be, and with nothing that its kind may not have.
		n := &e.Node
		n.Kind = (kind%7 + 7) % 7
		n.Mode, n.Uid, n.Gid, n.Mtime = mode&4095, uid&(1<<62-1), gid&(1<<62-1), mtime&(1<<62-1)
		if n.Kind != api.KindFile {
			n.Data = ""
		}
		if !isLink(n.Kind) {
			n.Link = ""
		}
		n.Major, n.Minor = major&lastDevice, minor&lastDevice
		if !isDevice(n.Kind) {
			n.Major, n.Minor = 0, 0
		}
		n.Attrs = untar.Attrs([]api.Pair{{Key: api.AttrKey + attrs, Value: data}, {Key: api.AttrKey + link, Value: path}})
		asModel(t, e, e)
		if modelRight(e) == api.OK {
			writes(t, modelBytes(e)+end, e)
		}
	})
}

// P9.4: any bytes that are read as an archive are written in one way.
func FuzzReadAndWrite(f *testing.F) {
	_, s := mixed()
	for _, s := range []string{end, s, head("a", "0", "", 0, 0, 0, 0, 0, 0, 0) + end} {
		f.Add([]byte(s))
	}
	f.Fuzz(func(t *testing.T, b []byte) {
		rewritten(t, string(b))
		// With the sums that its blocks would have as headers.
		s := ""
		for len(b) >= 512 {
			if block := string(b[:512]); header.Empty(b[:512]) {
				s += block
			} else {
				s += patched(patched(block, 257, "ustar\x0000"), 0, "")
			}
			b = b[512:]
		}
		rewritten(t, s+end)
	})
}
