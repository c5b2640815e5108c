package untar_test

import (
	"archive/tar"
	"bytes"
	"fmt"
	"math/big"
	"slices"
	"sort"
	"strconv"
	"strings"
	"testing"
	"time"

	"onionskin/api"
	"onionskin/header"
	"onionskin/pax"
	"onionskin/untar"
)

// end is the two blocks that an archive ends with.
var end = strings.Repeat("\x00", 1024)

// The types of entries, and their kinds.
var kinds = map[byte]int{0: api.KindFile, '0': api.KindFile, '1': api.KindHard, '2': api.KindSym, '3': api.KindChar, '4': api.KindBlock, '5': api.KindDir, '6': api.KindFifo}

// The keys that count in place of what a header tells.
var numberKeys, textKeys = []string{"size", "uid", "gid", "mtime"}, []string{"path", "linkpath"}

// filled is s, and as many bytes of that kind as make it whole blocks.
func filled(s string, with byte) string {
	for len(s)%512 != 0 {
		s += string([]byte{with})
	}
	return s
}

// padded is s in whole blocks, with bytes 0 behind it.
func padded(s string) string { return s + strings.Repeat("\x00", (512-len(s)%512)%512) }

// head is a header's block.
func head(h api.Header) string {
	b, ok := header.Print(h)
	if !ok {
		panic("a header that can't be printed")
	}
	return string(b)
}

// file is a file's header, and its data.
func file(name, data string) string {
	return head(api.Header{Name: name, Size: len(data), Type: '0'}) + padded(data)
}

// raw is a header of extras, and any bytes as its data.
func raw(data string) string {
	return head(api.Header{Name: "pax", Size: len(data), Type: 'x'}) + padded(data)
}

// pairs is the pairs of a list of keys and values, one behind the other.
func pairs(texts ...string) []api.Pair {
	var l []api.Pair
	for k := 0; k < len(texts); k += 2 {
		l = append(l, api.Pair{Key: texts[k], Value: texts[k+1]})
	}
	return l
}

// extras is a header of extras, and these, from a list of keys and values.
func extras(texts ...string) string {
	b, ok := pax.Print(pairs(texts...))
	if !ok {
		panic("extras that can't be printed")
	}
	return raw(string(b))
}

// plain is the entry of a file.
func plain(path, data string) api.Entry { return api.Entry{Path: path, Node: api.Node{Data: data}} }

// show is entries as they are told, cut off where they are very many.
func show(l []api.Entry) string { return fmt.Sprintf("%.300q", fmt.Sprintf("%+v", l)) }

// brief is an archive as it is told: of bytes that stand there many times, the first ones.
func brief(s string) string {
	var b []byte
	for k := range len(s) {
		if k < 4 || s[k-4:k] != strings.Repeat(s[k:k+1], 4) {
			b = append(b, s[k])
		}
	}
	return fmt.Sprintf("%d bytes: %.1500q", len(s), b)
}

// reads tells t where s is not read as these entries.
func reads(t *testing.T, s string, want ...api.Entry) {
	t.Helper()
	if got, err := untar.Read([]byte(s)); !slices.Equal(got, want) || err != api.OK {
		t.Errorf("%s: %s, %v, not %s", brief(s), show(got), err, show(want))
	}
}

// refused tells t where s is not refused by that error, or where entries are told beside it.
func refused(t *testing.T, s string, want api.Errno) {
	t.Helper()
	if got, err := untar.Read([]byte(s)); len(got) != 0 || err != want {
		t.Errorf("%s: %s, %v, not %v", brief(s), show(got), err, want)
	}
}

// modelNumber is a number's text, told by other hands.
func modelNumber(s string) (int, bool) {
	n, ok := new(big.Int).SetString(s, 10)
	if !ok || n.String() != s || n.Sign() < 0 || n.Cmp(new(big.Int).Lsh(big.NewInt(1), 62)) > 0 {
		return 0, false
	}
	return int(n.Int64()), true
}

// modelAttrs is Attrs, told by other hands: the keys are sorted, and the length of each record is counted up.
func modelAttrs(l []api.Pair) string {
	byKey := map[string]string{}
	count := 0
	for _, p := range l {
		if len(p.Key) >= 13 && p.Key[:13] == "SCHILY.xattr." {
			byKey[p.Key] = p.Value
			count++
		}
		if strings.HasPrefix(p.Key, "SCHILY.xattr.") && strings.Contains(p.Key, "=") {
			return ""
		}
	}
	if count != len(byKey) {
		return ""
	}
	var keys []string
	for key := range byKey {
		keys = append(keys, key)
	}
	sort.Strings(keys)
	var s string
	for _, key := range keys {
		text := " " + key + "=" + byKey[key] + "\n"
		size := len(text)
		for len(strconv.Itoa(size))+len(text) != size {
			size++
		}
		s += strconv.Itoa(size) + text
	}
	return s
}

// modelData is the data of a size, and the place behind it, told by other hands.
func modelData(b []byte, at, size int) (string, int, bool) {
	behind := at
	for left := size; left > 0; left -= 512 {
		behind += 512
		if behind > len(b) {
			return "", 0, false
		}
	}
	return string(b[at : at+size]), behind, true
}

// modelEntry is the entry of a header and the place behind its data, told by other hands.
func modelEntry(b []byte, at int, h api.Header, waiting map[string]string, l []api.Pair) (api.Entry, int, api.Errno) {
	e := api.Entry{Path: h.Name, Node: api.Node{Kind: kinds[h.Type], Mode: h.Mode % 4096, Uid: h.Uid, Gid: h.Gid, Mtime: h.Mtime, Link: h.Link, Major: h.Major, Minor: h.Minor}}
	for key, place := range map[string]*int{"size": &h.Size, "uid": &e.Node.Uid, "gid": &e.Node.Gid, "mtime": &e.Node.Mtime} {
		if s, ok := waiting[key]; ok {
			n, ok := modelNumber(s)
			if !ok {
				return api.Entry{}, 0, api.ErrForm
			}
			*place = n
		}
	}
	for key, place := range map[string]*string{"path": &e.Path, "linkpath": &e.Node.Link} {
		if s, ok := waiting[key]; ok {
			*place = s
		}
	}
	if e.Path == "" || len(e.Path) > 4096 || len(e.Node.Link) > 4096 || strings.Contains(e.Path+e.Node.Link, "\x00") {
		return api.Entry{}, 0, api.ErrPath
	}
	data, behind, ok := modelData(b, at, h.Size)
	if !ok {
		return api.Entry{}, 0, api.ErrShort
	}
	if e.Node.Kind != api.KindFile && h.Size > 0 {
		return api.Entry{}, 0, api.ErrForm
	}
	e.Node.Data, e.Node.Attrs = data, modelAttrs(l)
	if e.Node.Kind != api.KindSym && e.Node.Kind != api.KindHard {
		e.Node.Link = ""
	}
	if e.Node.Kind != api.KindChar && e.Node.Kind != api.KindBlock {
		e.Node.Major, e.Node.Minor = 0, 0
	}
	return e, behind, api.OK
}

// modelRead is Read, told by other hands.
func modelRead(b []byte) ([]api.Entry, api.Errno) {
	var all []api.Entry
	var l []api.Pair
	for at := 0; ; {
		if len(b) < at+512 {
			return nil, api.ErrShort
		}
		block := b[at : at+512]
		at += 512
		if string(block) == end[:512] {
			if len(b) < at+512 {
				return nil, api.ErrShort
			}
			if len(l) != 0 || bytes.Count(b[at:], []byte{0}) != len(b)-at {
				return nil, api.ErrForm
			}
			return all, api.OK
		}
		h, err := header.Parse(block)
		if err != api.OK {
			return nil, err
		}
		if h.Type == 'x' {
			if len(l) != 0 {
				return nil, api.ErrForm
			}
			data, behind, ok := modelData(b, at, h.Size)
			if !ok {
				return nil, api.ErrShort
			}
			if l, err = pax.Parse([]byte(data)); err != api.OK {
				return nil, err
			}
			at = behind
			continue
		}
		if _, ok := kinds[h.Type]; !ok {
			return nil, api.ErrType
		}
		waiting := map[string]string{}
		for _, p := range l {
			waiting[p.Key] = p.Value
		}
		e, behind, err := modelEntry(b, at, h, waiting, l)
		if err != api.OK {
			return nil, err
		}
		if len(all) >= 1000 {
			return nil, api.ErrFull
		}
		all, l, at = append(all, e), nil, behind
	}
}

// asModel tells t where s is not read as the model reads it.
func asModel(t *testing.T, s string) {
	t.Helper()
	want, err := modelRead([]byte(s))
	if got, e := untar.Read([]byte(s)); !slices.Equal(got, want) || e != err {
		t.Errorf("%s: %s, %v, not %s, %v", brief(s), show(got), e, show(want), err)
	}
}

// mixed is an archive of an entry of each type, with extras and without, and its entries.
func mixed() (string, []api.Entry) {
	s := file("a/b", "hello") +
		head(api.Header{Name: "d", Mode: 0o755, Uid: 1, Gid: 2, Mtime: 3, Type: '5'}) +
		extras("SCHILY.xattr.user.b", "2", "mtime", "9", "SCHILY.xattr.user.a", "1", "comment", "none") +
		head(api.Header{Name: "old", Size: 600, Mtime: 8, Type: 0}) + padded(strings.Repeat("x", 600)) +
		head(api.Header{Name: "h", Type: '1', Link: "a/b"}) +
		extras("linkpath", "there", "path", "s") +
		head(api.Header{Name: "t", Type: '2', Link: "here"}) +
		head(api.Header{Name: "c", Type: '3', Major: 1, Minor: 2}) +
		head(api.Header{Name: "b", Type: '4', Major: 3, Minor: 4}) +
		extras("gid", "5", "uid", "4611686018427387904") +
		head(api.Header{Name: "f", Mode: 0o17777, Type: '6'})
	return s + end, []api.Entry{
		plain("a/b", "hello"),
		{Path: "d", Node: api.Node{Kind: api.KindDir, Mode: 0o755, Uid: 1, Gid: 2, Mtime: 3}},
		{Path: "old", Node: api.Node{Mtime: 9, Data: strings.Repeat("x", 600), Attrs: "25 SCHILY.xattr.user.a=1\n25 SCHILY.xattr.user.b=2\n"}},
		{Path: "h", Node: api.Node{Kind: api.KindHard, Link: "a/b"}},
		{Path: "s", Node: api.Node{Kind: api.KindSym, Link: "there"}},
		{Path: "c", Node: api.Node{Kind: api.KindChar, Major: 1, Minor: 2}},
		{Path: "b", Node: api.Node{Kind: api.KindBlock, Major: 3, Minor: 4}},
		{Path: "f", Node: api.Node{Kind: api.KindFifo, Mode: 0o7777, Gid: 5, Uid: 1 << 62}},
	}
}

// P8.1, P8.2: an archive of all types.
func TestRead(t *testing.T) {
	s, want := mixed()
	reads(t, s, want...)
	reads(t, file("a", "b")+end, plain("a", "b"))
	reads(t, file("a", "")+end, plain("a", ""))
	reads(t, end)
}

// P8.1: no bytes, and fewer than a block has.
func TestNoBlock(t *testing.T) {
	refused(t, "", api.ErrShort)
	if l, err := untar.Read(nil); len(l) != 0 || err != api.ErrShort {
		t.Error(l, err)
	}
	if l, err := untar.Read([]byte(end)[:0]); len(l) != 0 || err != api.ErrShort {
		t.Error(l, err)
	}
	one := file("a", "b")
	for size := range 512 {
		refused(t, end[:size], api.ErrShort)
		refused(t, one[:size], api.ErrShort)
		refused(t, strings.Repeat("z", size), api.ErrShort)
		refused(t, one+end[:size], api.ErrShort)
		refused(t, one+strings.Repeat("z", size), api.ErrShort)
	}
}

// P8.1: the end, with every number of bytes 0 behind its first block.
func TestEnd(t *testing.T) {
	one := file("a", "b")
	for behind := range 512 {
		refused(t, end[:512+behind], api.ErrShort)
		refused(t, one+end[:512+behind], api.ErrShort)
	}
	for behind := range 1200 {
		more := end + strings.Repeat("\x00", behind)
		reads(t, more)
		reads(t, one+more, plain("a", "b"))
	}
	reads(t, one+end+strings.Repeat("\x00", 10<<20), plain("a", "b"))
}

// P8.1: fewer bytes than a block behind the first block of the end, whatever they are, and extras that wait.
func TestShortEndIsShort(t *testing.T) {
	for size := 1; size < 512; size++ {
		refused(t, end[:512]+strings.Repeat("z", size), api.ErrShort)
		refused(t, file("a", "b")+end[:512]+strings.Repeat("z", size), api.ErrShort)
		refused(t, extras("a", "b")+end[:512]+end[:size], api.ErrShort)
	}
	refused(t, extras("a", "b")+end[:512], api.ErrShort)
}

// P8.1, P8.5: a byte that is not 0 at each place behind the first block of the end.
func TestBytesBehindTheEnd(t *testing.T) {
	one := file("a", "b")
	for _, size := range []int{1024, 1025, 1535, 1536, 1537, 2048, 5000} {
		for at := 512; at < size; at += 1 + at/700 {
			for _, v := range []byte{1, ' ', '0', 0x80, 0xff} {
				b := make([]byte, size)
				b[at] = v
				refused(t, string(b), api.ErrForm)
				refused(t, one+string(b), api.ErrForm)
			}
		}
		b := make([]byte, size)
		b[size-1] = 1
		refused(t, string(b), api.ErrForm)
	}
	refused(t, end[:512]+one+end, api.ErrForm)
	refused(t, one+end[:512]+one+end, api.ErrForm)
	refused(t, one+end+one, api.ErrForm)
	refused(t, one+end+one+end, api.ErrForm)
	refused(t, end+end+"x", api.ErrForm)
	refused(t, end+strings.Repeat("\x00", 1<<20)+"x", api.ErrForm)
}

// P8.1: a block that has a byte that is not 0 is no end.
func TestNoEnd(t *testing.T) {
	for at := range 512 {
		b := []byte(end)
		b[at] = 1
		refused(t, string(b), api.ErrSum)
		refused(t, file("a", "b")+string(b), api.ErrSum)
	}
	refused(t, padded("x")+end, api.ErrSum)
}

// P8.1: an archive that breaks off, wherever that is.
func TestBrokenOff(t *testing.T) {
	s, _ := mixed()
	for size := range s {
		refused(t, s[:size], api.ErrShort)
	}
}

// P8.1: headers that are none, as the first one, behind another one, behind extras.
func TestNoHeader(t *testing.T) {
	good := head(api.Header{Name: "a", Type: '0'})
	for _, ahead := range []string{"", file("k", "data"), extras("a", "b"), file("k", "") + extras("path", "x")} {
		for at := range 512 {
			b := []byte(good)
			b[at]++
			if _, err := header.Parse(b); err != api.OK {
				refused(t, ahead+string(b)+end, err)
			}
		}
		form := []byte(good)
		form[257]++
		form[148+5]++
		if _, err := header.Parse(form); err != api.ErrForm {
			t.Fatalf("%q: %v", form, err)
		}
		refused(t, ahead+string(form)+end, api.ErrForm)
		refused(t, ahead+string(form), api.ErrForm)
		refused(t, ahead+padded("no header")+end, api.ErrSum)
		refused(t, ahead+strings.Repeat("\xff", 512)+end, api.ErrSum)
	}
}

// P8.1, P8.2: each byte as a type.
func TestTypes(t *testing.T) {
	for v := range 256 {
		h := api.Header{Name: "n", Mode: 0o644, Uid: 1, Gid: 2, Mtime: 3, Type: byte(v), Link: "l", Major: 4, Minor: 5}
		node := api.Node{Kind: kinds[byte(v)], Mode: 0o644, Uid: 1, Gid: 2, Mtime: 3}
		switch v {
		case 0, '0', '5', '6':
		case '1', '2':
			node.Link = "l"
		case '3', '4':
			node.Major, node.Minor = 4, 5
		case 'x':
			// Without extras, it is as if it was not there.
			reads(t, head(h)+end)
			reads(t, head(h)+file("a", "b")+end, plain("a", "b"))
			continue
		default:
			refused(t, head(h)+end, api.ErrType)
			refused(t, head(h), api.ErrType)
			refused(t, file("a", "b")+head(h)+end, api.ErrType)
			refused(t, extras("a", "b")+head(h)+end, api.ErrType)
			continue
		}
		reads(t, head(h)+end, api.Entry{Path: "n", Node: node})
		reads(t, file("a", "b")+head(h)+file("c", "d")+end, plain("a", "b"), api.Entry{Path: "n", Node: node}, plain("c", "d"))
	}
}

// P8.1: a type that may not be is told ahead of all that is wrong in the entry.
func TestTypeAheadOfEntry(t *testing.T) {
	for _, kind := range []byte{'7', 'g', 'L', 'K', 'X', 'S', '/', 1, 0xff} {
		refused(t, head(api.Header{Type: kind})+end, api.ErrType)
		refused(t, head(api.Header{Name: "a", Type: kind, Size: 1})+end, api.ErrType)
		refused(t, head(api.Header{Name: "a", Type: kind, Size: 5000}), api.ErrType)
		refused(t, extras("size", "x")+head(api.Header{Name: "a", Type: kind})+end, api.ErrType)
		refused(t, extras("path", "")+head(api.Header{Name: "a", Type: kind})+end, api.ErrType)
	}
	refused(t, extras("path", "p", "size", "0")+head(api.Header{Name: "a", Type: 'X'})+end, api.ErrType)
}

// P8.1: extras wait for the next header alone.
func TestExtrasWaitForOne(t *testing.T) {
	reads(t, extras("path", "p", "mtime", "7", "SCHILY.xattr.k", "v")+file("a", "b")+file("c", "d")+end,
		api.Entry{Path: "p", Node: api.Node{Mtime: 7, Data: "b", Attrs: "20 SCHILY.xattr.k=v\n"}}, plain("c", "d"))
	reads(t, extras("path", "p")+file("a", "b")+extras("path", "q")+file("c", "d")+end, plain("p", "b"), plain("q", "d"))
	reads(t, extras("path", "p")+file("a", "b")+extras("mtime", "1")+file("c", "d")+end, plain("p", "b"), api.Entry{Path: "c", Node: api.Node{Mtime: 1, Data: "d"}})
	reads(t, file("a", "b")+extras("path", "p")+file("c", "d")+end, plain("a", "b"), plain("p", "d"))
	reads(t, extras("k", "v")+file("a", "b")+end, plain("a", "b"))
}

// P8.1: extras that wait when the archive ends.
func TestExtrasAtTheEnd(t *testing.T) {
	for _, x := range []string{extras("a", "b"), extras("path", "p"), extras("size", "x"), extras("a", "")} {
		refused(t, x+end, api.ErrForm)
		refused(t, file("a", "b")+x+end, api.ErrForm)
		refused(t, x+file("a", "b")+extras("k", "v")+end, api.ErrForm)
		refused(t, x+end+end, api.ErrForm)
		refused(t, x+end+"x", api.ErrForm)
		refused(t, x+end[:512], api.ErrShort)
		refused(t, x, api.ErrShort)
	}
}

// P8.1: extras that wait at other extras, which is told ahead of all that is wrong in these.
func TestExtrasAtOthers(t *testing.T) {
	x := extras("a", "b")
	for _, other := range []string{x, extras("c", "d"), raw(""), raw("x"), raw("6 a=b\n6 a=b\n"), head(api.Header{Name: "pax", Type: 'x', Size: 5000}), head(api.Header{Type: 'x', Size: 1 << 62})} {
		refused(t, x+other+file("a", "b")+end, api.ErrForm)
		refused(t, x+other+end, api.ErrForm)
		refused(t, x+other, api.ErrForm)
		refused(t, file("k", "l")+x+other+file("a", "b")+end, api.ErrForm)
	}
}

// P8.1: data of extras of which there are none: no extras, which do not wait.
func TestNoExtras(t *testing.T) {
	none := raw("")
	reads(t, none+end)
	reads(t, none+none+end)
	reads(t, none+file("a", "b")+none+end, plain("a", "b"))
	reads(t, none+extras("path", "p")+file("a", "b")+end, plain("p", "b"))
	refused(t, none, api.ErrShort)
	refused(t, extras("path", "p")+none+file("a", "b")+end, api.ErrForm)
	refused(t, none+extras("path", "p")+end, api.ErrForm)
}

// P8.1: data of extras that is no records.
func TestExtrasThatAreNone(t *testing.T) {
	for data, want := range map[string]api.Errno{
		"x":                    api.ErrForm,
		"\x00":                 api.ErrForm,
		"6 a=b":                api.ErrForm,
		"6 a=b\n\x00":          api.ErrForm,
		"7 a=b\n":              api.ErrForm,
		"06 a=b\n":             api.ErrForm,
		"5 =b\n":               api.ErrForm,
		"6 a=b\n6 a=c\n":       api.ErrTwice,
		"6 a=b\n6 a=b\n":       api.ErrTwice,
		"9 path=x\n9 path=x\n": api.ErrTwice,
		"6 a=b\n6 a=c\nx":      api.ErrForm,
	} {
		refused(t, raw(data)+file("a", "b")+end, want)
		refused(t, raw(data)+end, want)
		refused(t, raw(data), want)
		refused(t, file("a", "b")+raw(data)+file("a", "b")+end, want)
		refused(t, head(api.Header{Type: 'x', Size: len(data)})+data, api.ErrShort)
		refused(t, head(api.Header{Type: 'x', Size: len(data)}), api.ErrShort)
	}
}

// P8.1: of the header of extras nothing but its type and its size matters.
func TestHeaderOfExtras(t *testing.T) {
	const data = "9 path=p\n"
	for _, h := range []api.Header{{}, {Name: "pax"}, {Name: "a/b", Mode: 0o7777, Uid: 1, Gid: 2, Mtime: 3, Link: "l", Major: 4, Minor: 5}, {Mode: 1 << 50, Uid: 1 << 50, Mtime: 1 << 62}} {
		h.Type, h.Size = 'x', len(data)
		reads(t, head(h)+padded(data)+file("a", "b")+end, plain("p", "b"))
	}
}

// P8.1: data of extras of each size around whole blocks, and what is left of its last block.
func TestSizesOfExtras(t *testing.T) {
	for _, size := range []int{102, 510, 511, 512, 513, 998, 1002, 1023, 1024, 1025, 5000} {
		value := strings.Repeat("v", size-len("100 k=\n"))
		if size > 999 {
			value = value[1:]
		}
		data := strconv.Itoa(size) + " k=" + value + "\n"
		if len(data) != size {
			t.Fatal(size, len(data))
		}
		h := head(api.Header{Type: 'x', Size: size})
		for _, with := range []byte{0, 'x', 0xff} {
			reads(t, h+filled(data, with)+file("a", "b")+end, plain("a", "b"))
			refused(t, h+filled(data, with)+end, api.ErrForm)
			whole := filled(data, with)
			for _, there := range []int{0, 1, size - 1, len(whole) - 1} {
				refused(t, h+whole[:there], api.ErrShort)
			}
			if size%512 != 0 {
				refused(t, h+whole[:size], api.ErrShort)
			}
		}
	}
	// Attributes that need more than a block.
	long := strings.Repeat("\n", 3000)
	reads(t, extras("SCHILY.xattr.k", long)+file("a", "b")+end, api.Entry{Path: "a", Node: api.Node{Data: "b", Attrs: "3021 SCHILY.xattr.k=" + long + "\n"}})
}

// P8.1, P8.2, P8.5: data of each size around whole blocks, and what is left of its last block.
func TestSizesOfData(t *testing.T) {
	for _, size := range []int{0, 1, 2, 255, 510, 511, 512, 513, 514, 1023, 1024, 1025, 1536, 10000} {
		for _, v := range []string{"d", "\x00", "\xff"} {
			data := strings.Repeat(v, size)
			h := head(api.Header{Name: "n", Type: '0', Size: size})
			for _, with := range []byte{0, 1, 'x', 0xff} {
				whole := filled(data, with)
				reads(t, h+whole+end, plain("n", data))
				reads(t, h+whole+file("a", "b")+h+whole+end, plain("n", data), plain("a", "b"), plain("n", data))
				if size > 0 {
					refused(t, h+whole[:len(whole)-1], api.ErrShort)
					refused(t, h+whole[:size-1], api.ErrShort)
					refused(t, h, api.ErrShort)
				}
				if size%512 != 0 {
					refused(t, h+whole[:size], api.ErrShort)
				}
			}
		}
	}
}

// P8.1: data that looks like an end, a header or an archive.
func TestDataThatLooksLikeMore(t *testing.T) {
	inner, _ := mixed()
	for _, data := range []string{end, end + end, inner, file("a", "b"), extras("path", "p"), padded("no header"), end[:512] + "x"} {
		reads(t, file("n", data)+file("c", "d")+end, plain("n", data), plain("c", "d"))
	}
}

// P8.2: sizes greater than what is there, up to the greatest one.
func TestGreatSizes(t *testing.T) {
	for _, size := range []int{1537, 2048, 1 << 31, 1<<31 + 1, 1 << 32, 1<<32 + 3, 1 << 61, 1<<62 - 512, 1<<62 - 511, 1<<62 - 1, 1 << 62} {
		refused(t, head(api.Header{Name: "a", Type: '0', Size: size})+padded("abc")+end, api.ErrShort)
		refused(t, head(api.Header{Name: "a", Type: '5', Size: size})+padded("abc")+end, api.ErrShort)
		refused(t, head(api.Header{Name: "a", Type: 'x', Size: size})+padded("abc")+end, api.ErrShort)
		refused(t, extras("size", strconv.Itoa(size))+file("a", "abc")+end, api.ErrShort)
	}
}

// some is an archive of that many files, without its end.
func some(count int) string { return strings.Repeat(file("a", ""), count) }

// P8.1: exactly as many entries as there may be, and more.
func TestFull(t *testing.T) {
	all := slices.Repeat([]api.Entry{plain("a", "")}, 1000)
	reads(t, some(999)+end, all[:999]...)
	reads(t, some(1000)+end, all...)
	refused(t, some(1001)+end, api.ErrFull)
	refused(t, some(1001), api.ErrFull)
	refused(t, some(1002)+end, api.ErrFull)
	refused(t, some(1000)+file("b", "data")+end, api.ErrFull)
	refused(t, some(1000)+head(api.Header{Name: "b", Type: '5'})+end, api.ErrFull)
	refused(t, some(1000)+extras("path", "b")+file("b", "data")+end, api.ErrFull)
	refused(t, some(1001)+padded("no header"), api.ErrFull)
}

// P8.1: extras are no entries.
func TestFullWithExtras(t *testing.T) {
	one := extras("path", "p") + file("a", "b")
	reads(t, strings.Repeat(one, 1000)+end, slices.Repeat([]api.Entry{plain("p", "b")}, 1000)...)
	refused(t, strings.Repeat(one, 1001)+end, api.ErrFull)
	refused(t, strings.Repeat(one, 1000)+extras("path", "p")+end, api.ErrForm)
	refused(t, strings.Repeat(one, 1000)+extras("path", "p"), api.ErrShort)
	reads(t, strings.Repeat(raw(""), 1500)+some(1)+end, plain("a", ""))
}

// P8.1: what is wrong ahead of there being too many.
func TestOthersAheadOfFull(t *testing.T) {
	full := some(1000)
	refused(t, full, api.ErrShort)
	refused(t, full+end[:1000], api.ErrShort)
	refused(t, full+end+"x", api.ErrForm)
	refused(t, full+padded("no header")+end, api.ErrSum)
	refused(t, full+head(api.Header{Name: "a", Type: 'g'})+end, api.ErrType)
	refused(t, full+head(api.Header{Type: '0'})+end, api.ErrPath)
	refused(t, full+extras("uid", "x")+file("a", "b")+end, api.ErrForm)
	refused(t, full+extras("path", "")+file("a", "b")+end, api.ErrPath)
	refused(t, full+head(api.Header{Name: "a", Type: '0', Size: 2000})+end, api.ErrShort)
	refused(t, full+head(api.Header{Name: "a", Type: '5', Size: 1})+padded("x")+end, api.ErrForm)
	refused(t, full+raw("x")+file("a", "b")+end, api.ErrForm)
	refused(t, full+raw("6 a=b\n6 a=b\n")+file("a", "b")+end, api.ErrTwice)
}

// numberOf is where an entry has the number of an extra.
func numberOf(n *api.Node, key string) *int {
	return map[string]*int{"uid": &n.Uid, "gid": &n.Gid, "mtime": &n.Mtime}[key]
}

// P8.2: each key of a number, in place of what the header tells, alone and with others.
func TestNumbersOfExtras(t *testing.T) {
	for _, key := range []string{"uid", "gid", "mtime"} {
		for _, n := range []int{0, 1, 7, 8, 9, 10, 99, 100, 1000, 1<<21 - 1, 1 << 21, 1<<31 - 1, 1 << 31, 1 << 32, 1<<56 + 1, 1<<62 - 1, 1 << 62} {
			for kind := range kinds {
				e := api.Entry{Path: "n", Node: api.Node{Kind: kinds[kind], Uid: 11, Gid: 22, Mtime: 33}}
				*numberOf(&e.Node, key) = n
				h := head(api.Header{Name: "n", Type: kind, Uid: 11, Gid: 22, Mtime: 33})
				reads(t, extras(key, strconv.Itoa(n))+h+end, e)
				reads(t, extras("a", "x", key, strconv.Itoa(n), "z", "y")+h+end, e)
			}
		}
	}
	reads(t, extras("mtime", "3", "gid", "2", "uid", "1")+head(api.Header{Name: "n", Type: '5', Uid: 11, Gid: 22, Mtime: 33})+end,
		api.Entry{Path: "n", Node: api.Node{Kind: api.KindDir, Uid: 1, Gid: 2, Mtime: 3}})
}

// P8.2: a size as an extra, in place of what the header tells.
func TestSizeOfExtras(t *testing.T) {
	for _, told := range []int{0, 1, 3, 512, 5000, 1 << 62} {
		h := head(api.Header{Name: "n", Type: '0', Size: told})
		for _, size := range []int{0, 1, 2, 511, 512, 513, 1024} {
			data := strings.Repeat("d", size)
			s := extras("size", strconv.Itoa(size)) + h + padded(data)
			reads(t, s+end, plain("n", data))
			reads(t, s+file("a", "b")+end, plain("n", data), plain("a", "b"))
		}
		refused(t, extras("size", "1025")+h+end, api.ErrShort)
		refused(t, extras("size", "513")+h+end[:1023], api.ErrShort)
	}
	// A header tells nothing of the extras' own size then.
	reads(t, extras("size", "3")+head(api.Header{Name: "n", Type: '0'})+padded("abcd")+end, plain("n", "abc"))
}

// P8.2: texts that are no number's, of each of the four keys and each type.
func TestNoNumbers(t *testing.T) {
	bad := []string{
		"", "00", "01", "007", "0x1", "0o1", "0b1", "-0", "-1", "+0", "+1", " 1", "1 ", " ", "1 1", "1\n", "\n1", "\t1", "1\x00", "\x001", "\x00", "x", "1x", "x1", "a", "f",
		"1.", "1.0", ".1", "1e0", "1E3", "1,0", "1_0", "1_000", "--1", "1-", "/", ":", "1/", ":1", "\uff11", "\u0661", "1\u00a0", "\xff", "=", "1=",
		"4611686018427387905", "4611686018427387906", "4611686018427387910", "4611686018427387914", "5000000000000000000", "9223372036854775807", "9223372036854775808",
		"18446744073709551615", "18446744073709551616", "18446744073709551617", "36893488147419103232", "10000000000000000000", "340282366920938463463374607431768211456",
		"04611686018427387904", "-4611686018427387904", "-9223372036854775808", strings.Repeat("9", 100), strings.Repeat("0", 100), strings.Repeat("0", 100) + "1", "1" + strings.Repeat("0", 1000),
	}
	for _, key := range numberKeys {
		for _, s := range bad {
			for _, ahead := range []string{"", file("k", "data")} {
				refused(t, ahead+extras(key, s)+file("a", "b")+end, api.ErrForm)
				refused(t, ahead+extras("path", "p", key, s, "z", "z")+file("a", "b")+end, api.ErrForm)
			}
			refused(t, extras(key, s)+head(api.Header{Name: "a", Type: '5'})+end, api.ErrForm)
		}
		for v := range 256 {
			for _, s := range []string{string([]byte{byte(v)}), string([]byte{'1', byte(v)}), string([]byte{byte(v), '1'}), string([]byte{'1', byte(v), '1'})} {
				asModel(t, extras(key, s)+head(api.Header{Name: "a", Type: '0'})+end)
			}
		}
	}
}

// P8.2: the last of the four keys is asked as the first one is.
func TestEachNumberIsAsked(t *testing.T) {
	for _, wrong := range numberKeys {
		var l []string
		for _, key := range numberKeys {
			if key == wrong {
				l = append(l, key, "01")
			} else {
				l = append(l, key, "0")
			}
		}
		refused(t, extras(l...)+head(api.Header{Name: "a", Type: '0'})+end, api.ErrForm)
		refused(t, extras(l...)+head(api.Header{Name: "a", Type: '2'})+end, api.ErrForm)
	}
}

// P8.2: path and linkpath, in place of what the header tells.
func TestTextsOfExtras(t *testing.T) {
	texts := []string{"p", "/", "a/b/", "../x", " ", "\n", "=", "a=b", "\xff\xfe", "\u00e9", "1", ".", strings.Repeat("n", 100), strings.Repeat("n", 101), strings.Repeat("d/", 2047), strings.Repeat("n", 4095), strings.Repeat("n", 4096)}
	for _, s := range texts {
		for kind, is := range kinds {
			h := head(api.Header{Name: "name", Type: kind, Link: "link"})
			link := is == api.KindSym || is == api.KindHard
			e := api.Entry{Path: s, Node: api.Node{Kind: is}}
			if link {
				e.Node.Link = "link"
			}
			reads(t, extras("path", s)+h+end, e)
			e.Path = "name"
			if link {
				e.Node.Link = s
			}
			reads(t, extras("linkpath", s)+h+end, e)
			e.Path = s + "x"
			if len(e.Path) <= 4096 {
				reads(t, extras("linkpath", s, "path", s+"x")+h+end, e)
			}
		}
	}
	reads(t, extras("linkpath", "")+head(api.Header{Name: "l", Type: '2', Link: "to"})+end, api.Entry{Path: "l", Node: api.Node{Kind: api.KindSym}})
	reads(t, head(api.Header{Name: "l", Type: '1'})+end, api.Entry{Path: "l", Node: api.Node{Kind: api.KindHard}})
	reads(t, extras("path", "p")+head(api.Header{Type: '5'})+end, api.Entry{Path: "p", Node: api.Node{Kind: api.KindDir}})
}

// P8.2: a header's own texts, up to those that fill their fields, and a prefix.
func TestTextsOfHeaders(t *testing.T) {
	for _, size := range []int{1, 2, 99, 100} {
		s := strings.Repeat("n", size)
		reads(t, head(api.Header{Name: s, Type: '2', Link: s})+end, api.Entry{Path: s, Node: api.Node{Kind: api.KindSym, Link: s}})
	}
	b := []byte(head(api.Header{Name: "name", Type: '0'}))
	copy(b[345:], "pre/fix")
	sum := 0
	for k, v := range b {
		if k < 148 || k >= 156 {
			sum += int(v)
		} else {
			sum += ' '
		}
	}
	copy(b[148:], fmt.Sprintf("%06o\x00 ", sum))
	reads(t, string(b)+end, plain("pre/fix/name", ""))
	reads(t, extras("path", "p")+string(b)+end, plain("p", ""))
}

// P8.2: paths and links that may not be, of each type.
func TestWrongTexts(t *testing.T) {
	long := strings.Repeat("n", 4097)
	for kind := range kinds {
		h := head(api.Header{Name: "name", Type: kind, Link: "link"})
		for _, s := range []string{"\x00", "a\x00", "\x00a", "a\x00b", long, long + long, strings.Repeat("n", 4096) + "\x00", strings.Repeat("n", 4095) + "\x00", strings.Repeat("d/", 2049), strings.Repeat("\u00e9", 2049)} {
			refused(t, extras("path", s)+h+end, api.ErrPath)
			refused(t, extras("linkpath", s)+h+end, api.ErrPath)
			refused(t, extras("linkpath", s, "path", "p")+h+end, api.ErrPath)
			refused(t, extras("path", s, "linkpath", "l")+h+end, api.ErrPath)
			refused(t, file("a", "b")+extras("linkpath", s)+h+end, api.ErrPath)
		}
		refused(t, extras("path", "")+h+end, api.ErrPath)
		refused(t, head(api.Header{Type: kind})+end, api.ErrPath)
		refused(t, head(api.Header{Type: kind, Link: "l"})+end, api.ErrPath)
		refused(t, extras("linkpath", "l")+head(api.Header{Type: kind})+end, api.ErrPath)
		refused(t, file("a", "b")+head(api.Header{Type: kind})+file("a", "b")+end, api.ErrPath)
	}
}

// P8.2: of several errors in an entry, the first one.
func TestOrderOfErrors(t *testing.T) {
	const number, path, link, short = "01", "", "\x00", "999999"
	dir, named := head(api.Header{Name: "d", Type: '5'}), head(api.Header{Name: "f", Type: '0'})
	for _, h := range []string{dir, named, head(api.Header{Type: '5'}), head(api.Header{Name: "d", Type: '5', Size: 1}), head(api.Header{Name: "d", Type: '5', Size: 5000})} {
		refused(t, extras("uid", number, "path", path)+h+end, api.ErrForm)
		refused(t, extras("path", path, "gid", number)+h+end, api.ErrForm)
		refused(t, extras("linkpath", link, "mtime", number)+h+end, api.ErrForm)
		refused(t, extras("size", short, "mtime", number)+h+end, api.ErrForm)
		refused(t, extras("mtime", number, "size", short, "path", path, "linkpath", link)+h, api.ErrForm)
		refused(t, extras("path", path, "size", short)+h+end, api.ErrPath)
		refused(t, extras("linkpath", link, "size", short)+h+end, api.ErrPath)
		refused(t, extras("path", path, "size", "1")+h+padded("x")+end, api.ErrPath)
		refused(t, extras("path", path)+h, api.ErrPath)
		refused(t, extras("size", short, "path", "p")+h+end, api.ErrShort)
		refused(t, extras("size", "1", "path", "p")+h, api.ErrShort)
		refused(t, extras("size", "1", "path", "p")+h+"x", api.ErrShort)
	}
	refused(t, head(api.Header{Type: '5', Size: 5000})+end, api.ErrPath)
	refused(t, head(api.Header{Name: "d", Type: '5', Size: 5000})+end, api.ErrShort)
	refused(t, extras("size", "1")+dir+padded("x")+end, api.ErrForm)
	reads(t, extras("size", "1")+named+padded("x")+end, plain("f", "x"))
}

// P8.2: a size that counts for something that is not a file.
func TestSizesOfOthers(t *testing.T) {
	for kind, is := range kinds {
		if is == api.KindFile {
			continue
		}
		want := api.Entry{Path: "n", Node: api.Node{Kind: is}}
		for _, size := range []int{1, 2, 511, 512, 513} {
			h := head(api.Header{Name: "n", Type: kind, Size: size})
			data := strings.Repeat("d", size)
			refused(t, h+padded(data)+end, api.ErrForm)
			refused(t, h+padded(data), api.ErrForm)
			refused(t, h, api.ErrShort)
			refused(t, extras("size", strconv.Itoa(size))+head(api.Header{Name: "n", Type: kind})+padded(data)+end, api.ErrForm)
			// What the extras tell is what counts.
			reads(t, extras("size", "0")+h+end, want)
		}
		reads(t, head(api.Header{Name: "n", Type: kind})+end, want)
		reads(t, extras("size", "0")+head(api.Header{Name: "n", Type: kind})+end, want)
	}
}

// P8.2: the last twelve bits of modes.
func TestModes(t *testing.T) {
	for mode, want := range map[int]int{0: 0, 1: 1, 0o644: 0o644, 0o7777: 0o7777, 0o10000: 0, 0o17777: 0o7777, 0o100644: 0o644, 0o7777777: 0o7777, 1 << 40: 0, 1<<40 + 0o1234: 0o1234, 1<<56 - 1: 0o7777} {
		for kind := range kinds {
			reads(t, head(api.Header{Name: "n", Type: kind, Mode: mode})+end, api.Entry{Path: "n", Node: api.Node{Kind: kinds[kind], Mode: want}})
		}
	}
	for bit := range 12 {
		reads(t, head(api.Header{Name: "n", Type: '0', Mode: 1 << bit})+end, api.Entry{Path: "n", Node: api.Node{Mode: 1 << bit}})
	}
}

// P8.2: numbers of headers at the ends of what their fields have.
func TestNumbersOfHeaders(t *testing.T) {
	for _, n := range []int{0, 1, 1<<21 - 1, 1 << 21, 1<<56 - 1} {
		reads(t, head(api.Header{Name: "n", Type: '3', Uid: n, Gid: n / 2, Mtime: n / 3, Major: n / 4, Minor: n / 5})+end,
			api.Entry{Path: "n", Node: api.Node{Kind: api.KindChar, Uid: n, Gid: n / 2, Mtime: n / 3, Major: n / 4, Minor: n / 5}})
	}
	reads(t, head(api.Header{Name: "n", Type: '6', Mtime: 1 << 62})+end, api.Entry{Path: "n", Node: api.Node{Kind: api.KindFifo, Mtime: 1 << 62}})
}

// P8.2: keys that are none of the six, nor those of attributes, do not matter.
func TestOtherKeys(t *testing.T) {
	h := head(api.Header{Name: "n", Size: 1, Uid: 2, Gid: 3, Mtime: 4, Type: '0'}) + padded("d")
	want := api.Entry{Path: "n", Node: api.Node{Uid: 2, Gid: 3, Mtime: 4, Data: "d"}}
	for _, key := range []string{
		"Size", "SIZE", "size ", " size", "siz", "sizes", "size\x00", "uname", "gname", "UID", "uid2", "gids", "mtim", "atime", "ctime", "mtimes", "Path", "paths", "path ", "pat", "linkpaths", "Linkpath", "link", "linkname",
		"mode", "devmajor", "devminor", "type", "data", "comment", "hdrcharset", "GNU.sparse.size", "SCHILY.xattr", "SCHILY.xatt", "SCHILY.xattrx", "SCHILY.Xattr.a", "schily.xattr.a", " SCHILY.xattr.a", "xSCHILY.xattr.a", "LIBARCHIVE.xattr.a", "SCHILY.acl.a", "6", "\n", "\x00",
	} {
		for _, value := range []string{"", "x", "7", "-1", "\x00", strings.Repeat("v", 5000)} {
			reads(t, extras(key, value)+h+end, want)
		}
	}
}

// P8.2, P8.3: attributes of each type, in and out of order, between other extras.
func TestAttrsOfEntries(t *testing.T) {
	const a, b, c = "20 SCHILY.xattr.a=1\n", "20 SCHILY.xattr.b=2\n", "21 SCHILY.xattr.ab=3\n"
	for kind, is := range kinds {
		h := head(api.Header{Name: "n", Type: kind})
		want := api.Entry{Path: "n", Node: api.Node{Kind: is, Attrs: a + c + b}}
		reads(t, extras("SCHILY.xattr.a", "1", "SCHILY.xattr.ab", "3", "SCHILY.xattr.b", "2")+h+end, want)
		reads(t, extras("SCHILY.xattr.b", "2", "SCHILY.xattr.ab", "3", "SCHILY.xattr.a", "1")+h+end, want)
		reads(t, extras("z", "", "SCHILY.xattr.ab", "3", "SCHILY.xattr", "x", "SCHILY.xattr.b", "2", "path", "n", "SCHILY.xattr.a", "1", "a", "")+h+end, want)
		want.Node.Attrs = "19 SCHILY.xattr.=v\n"
		reads(t, extras("SCHILY.xattr.", "v")+h+end, want)
		want.Node.Attrs = "23 SCHILY.xattr.path=0\n"
		reads(t, extras("SCHILY.xattr.path", "0")+h+end, want)
		want.Node.Attrs = ""
		reads(t, extras("k", "v")+h+end, want)
	}
}

// P8.3
func TestAttrs(t *testing.T) {
	for want, l := range map[string][]api.Pair{
		"20 SCHILY.xattr.a=2\n20 SCHILY.xattr.b=1\n":                              pairs("SCHILY.xattr.b", "1", "x", "", "SCHILY.xattr.a", "2"),
		"19 SCHILY.xattr.a=\n":                                                    pairs("SCHILY.xattr.a", ""),
		"18 SCHILY.xattr.=\n19 SCHILY.xattr.\x00=\n":                              pairs("SCHILY.xattr.\x00", "", "SCHILY.xattr.", ""),
		"20 SCHILY.xattr.A=1\n20 SCHILY.xattr.a=2\n":                              pairs("SCHILY.xattr.a", "2", "SCHILY.xattr.A", "1"),
		"20 SCHILY.xattr.a=9\n21 SCHILY.xattr.a =8\n21 SCHILY.xattr.aa=7\n":       pairs("SCHILY.xattr.aa", "7", "SCHILY.xattr.a ", "8", "SCHILY.xattr.a", "9"),
		"20 SCHILY.xattr.z=1\n21 SCHILY.xattr.\u00e9=2\n20 SCHILY.xattr.\xff=3\n": pairs("SCHILY.xattr.\xff", "3", "SCHILY.xattr.\u00e9", "2", "SCHILY.xattr.z", "1"),
		"21 SCHILY.xattr.10=2\n20 SCHILY.xattr.2=1\n":                             pairs("SCHILY.xattr.2", "1", "SCHILY.xattr.10", "2"),
		"33 SCHILY.xattr.SCHILY.xattr.a=1\n":                                      pairs("SCHILY.xattr.SCHILY.xattr.a", "1"),
		"24 SCHILY.xattr.a=\n=\x00\xff \n":                                        pairs("SCHILY.xattr.a", "\n=\x00\xff "),
		"21 SCHILY.xattr. a=1\n21 SCHILY.xattr.a\n=2\n":                           pairs("SCHILY.xattr.a\n", "2", "SCHILY.xattr. a", "1"),
	} {
		if got := untar.Attrs(l); got != want {
			t.Errorf("%q: %q, not %q", l, got, want)
		}
		if got := modelAttrs(l); got != want {
			t.Errorf("%q: the model tells %q, not %q", l, got, want)
		}
	}
}

// P8.3: none, or such as can't be printed.
func TestNoAttrs(t *testing.T) {
	for _, l := range [][]api.Pair{
		nil,
		{},
		pairs("SCHILY.xattr.a", "1")[:0],
		pairs("a", "1", "path", "2", "", "3", "=", "4"),
		pairs("SCHILY.xattr", "1", "SCHILY.xattra", "2", "schily.xattr.a", "3", "xSCHILY.xattr.a", "4", "SCHILY", "5", "SCHILY.xattr,a", "6"),
		pairs("SCHILY.xattr.=", "1"),
		pairs("SCHILY.xattr.a=", "1"),
		pairs("SCHILY.xattr.a=b", "1"),
		pairs("SCHILY.xattr.a", "1", "SCHILY.xattr.a=b", "1"),
		pairs("SCHILY.xattr.a=b", "1", "SCHILY.xattr.a", "1"),
		pairs("SCHILY.xattr.a", "1", "SCHILY.xattr.a", "1"),
		pairs("SCHILY.xattr.a", "1", "SCHILY.xattr.a", "2"),
		pairs("SCHILY.xattr.a", "1", "SCHILY.xattr.b", "2", "x", "y", "SCHILY.xattr.a", "3"),
		pairs("SCHILY.xattr.", "1", "SCHILY.xattr.", "2"),
	} {
		if got := untar.Attrs(l); got != "" {
			t.Errorf("%q: %q", l, got)
		}
	}
}

// P8.3: pairs that are no attributes may be any, and there twice.
func TestAttrsBesideOthers(t *testing.T) {
	const want = "20 SCHILY.xattr.a=1\n"
	for _, l := range [][]api.Pair{
		pairs("x", "", "SCHILY.xattr.a", "1", "x", ""),
		pairs("", "", "SCHILY.xattr.a", "1", "", ""),
		pairs("=", "", "SCHILY.xattr.a", "1", "a=b", ""),
		pairs("SCHILY.xattr", "", "SCHILY.xattr.a", "1", "SCHILY.xattr", ""),
	} {
		if got := untar.Attrs(l); got != want {
			t.Errorf("%q: %q", l, got)
		}
	}
}

// P8.3: all orders of some keys.
func TestAttrsInEachOrder(t *testing.T) {
	l := pairs("SCHILY.xattr.", "0", "SCHILY.xattr.a", "1", "SCHILY.xattr.a\x00", "2", "SCHILY.xattr.ab", "3", "SCHILY.xattr.b", "4", "x", "5")
	want := modelAttrs(l)
	var turn func(at int)
	turn = func(at int) {
		if at == len(l) {
			if got := untar.Attrs(l); got != want {
				t.Errorf("%q: %q, not %q", l, got, want)
			}
			return
		}
		for k := at; k < len(l); k++ {
			l[at], l[k] = l[k], l[at]
			turn(at + 1)
			l[at], l[k] = l[k], l[at]
		}
	}
	turn(0)
}

// P8.3: very many attributes.
func TestManyAttrs(t *testing.T) {
	var l []api.Pair
	for k := range 5000 {
		l = append(l, api.Pair{Key: "SCHILY.xattr." + strconv.Itoa(k*7919%20011), Value: strconv.Itoa(k)}, api.Pair{Key: strconv.Itoa(k % 7)})
	}
	want := modelAttrs(l)
	if got := untar.Attrs(l); got != want || len(got) == 0 {
		t.Errorf("%.200q, not %.200q", got, want)
	}
}

// P8.4, W6: what is answered does not hang on what was handed in any more, nor on other answers.
func TestAnswersAreApart(t *testing.T) {
	s, want := mixed()
	in := []byte(s)
	l, err := untar.Read(in)
	for k := range in {
		in[k] = 'z'
	}
	if !slices.Equal(l, want) || err != api.OK {
		t.Errorf("the entries share the bytes that they were read of: %s", show(l))
	}
	other, _ := untar.Read([]byte(s))
	for k := range l[:cap(l)] {
		l[:cap(l)][k] = plain("z", "z")
	}
	if !slices.Equal(other, want) {
		t.Errorf("two answers share entries: %s", show(other))
	}
	reads(t, s, want...)
}

// W6: what is handed in is not changed, nor the room behind it, which does not count.
func TestWhatIsHandedInIsNotChanged(t *testing.T) {
	whole, _ := mixed()
	for _, s := range []string{"", end, end[:512], whole, whole[:3000], whole + "x", extras("a", "b") + end, file("a", "b"), head(api.Header{Name: "a", Type: '0', Size: 3})} {
		for _, more := range []string{end, "x", file("c", "d")} {
			room := []byte(s + more)
			want, err := modelRead([]byte(s))
			if got, e := untar.Read(room[:len(s)]); !slices.Equal(got, want) || e != err {
				t.Errorf("%.500q: %s, %v, not %v: the room behind the bytes counts", s, show(got), e, err)
			}
			if string(room) != s+more {
				t.Errorf("%.500q: %.500q", s, room)
			}
		}
	}
	l := pairs("SCHILY.xattr.b", "1", "x", "", "SCHILY.xattr.a", "2", "SCHILY.xattr.0", "3", "y", "")
	kept := slices.Clone(l)
	for size := range len(l) + 1 {
		if got, want := untar.Attrs(l[:size]), modelAttrs(kept[:size]); got != want {
			t.Errorf("%q: %q, not %q", l[:size], got, want)
		}
		if !slices.Equal(l, kept) {
			t.Fatalf("%q, not %q", l, kept)
		}
	}
}

// W2: what was read before does not matter.
func TestTwiceTheSame(t *testing.T) {
	s, want := mixed()
	for range 2 {
		reads(t, s, want...)
		refused(t, extras("a", "b"), api.ErrShort)
		refused(t, extras("a", "b")+end, api.ErrForm)
		reads(t, s, want...)
		refused(t, some(1001), api.ErrFull)
		reads(t, file("a", "b")+end, plain("a", "b"))
	}
}

// P8.1 to P8.5: each byte of an archive, changed.
func TestEachByte(t *testing.T) {
	s := extras("path", "p", "SCHILY.xattr.a", "1") + file("a", "data") + head(api.Header{Name: "l", Type: '2', Link: "to"}) + end
	for at := range len(s) {
		for _, v := range []byte{0, 1, ' ', '0', '7', 0x80, 0xff} {
			b := []byte(s)
			b[at] = v
			asModel(t, string(b))
		}
	}
}

// P8.1 to P8.3: all short rows of parts that matter to each other.
func TestShortRows(t *testing.T) {
	parts := []string{
		end[:512], end, file("a", "b"), head(api.Header{Name: "d", Type: '5'}), head(api.Header{Name: "d", Type: '5', Size: 1}), extras("path", "p", "SCHILY.xattr.a", "1"), raw(""), extras("size", "513"), extras("uid", "01"),
		head(api.Header{Name: "g", Type: 'g'}), head(api.Header{Type: '0'}), padded("x"), "x", head(api.Header{Type: 'x', Size: 600}),
	}
	rows := []string{""}
	for range 4 {
		var longer []string
		for _, s := range rows {
			for _, p := range parts {
				asModel(t, s+p)
				longer = append(longer, s+p)
			}
		}
		rows = longer
	}
}

// P8.1 to P8.3: archives that other hands wrote.
func TestArchivesOfOthers(t *testing.T) {
	long := strings.Repeat("part/", 300) + "name"
	moment := time.Unix(1700000000, 0)
	var room bytes.Buffer
	w := tar.NewWriter(&room)
	for _, h := range []tar.Header{
		{Typeflag: tar.TypeReg, Name: "a", Size: 4, Mode: 0o644, ModTime: moment},
		{Typeflag: tar.TypeReg, Name: long, Size: 4, Mode: 0o600, ModTime: moment, PAXRecords: map[string]string{"SCHILY.xattr.user.z": "1", "SCHILY.xattr.user.a": "\x01\n="}},
		{Typeflag: tar.TypeDir, Name: strings.Repeat("d/", 80), Mode: 0o1755, ModTime: moment, Uid: 5, Gid: 6, Uname: "root", Gname: "wheel"},
		{Typeflag: tar.TypeSymlink, Name: "s", Linkname: long, ModTime: moment, Format: tar.FormatPAX},
		{Typeflag: tar.TypeLink, Name: "h", Linkname: "a", ModTime: time.Unix(1<<40, 0), Uid: 1 << 30, Gid: 1 << 31},
		{Typeflag: tar.TypeChar, Name: "c", Devmajor: 5, Devminor: 6, ModTime: moment},
		{Typeflag: tar.TypeBlock, Name: "b", Devmajor: 7, Devminor: 8, ModTime: moment},
		{Typeflag: tar.TypeFifo, Name: "\u00e9", ModTime: moment},
	} {
		if err := w.WriteHeader(&h); err != nil {
			t.Fatal(err)
		}
		if h.Size > 0 {
			w.Write([]byte("data"))
		}
	}
	w.Close()
	at := int(moment.Unix())
	reads(t, room.String(),
		api.Entry{Path: "a", Node: api.Node{Mode: 0o644, Mtime: at, Data: "data"}},
		api.Entry{Path: long, Node: api.Node{Mode: 0o600, Mtime: at, Data: "data", Attrs: "27 SCHILY.xattr.user.a=\x01\n=\n25 SCHILY.xattr.user.z=1\n"}},
		api.Entry{Path: strings.Repeat("d/", 80), Node: api.Node{Kind: api.KindDir, Mode: 0o1755, Mtime: at, Uid: 5, Gid: 6}},
		api.Entry{Path: "s", Node: api.Node{Kind: api.KindSym, Link: long, Mtime: at}},
		api.Entry{Path: "h", Node: api.Node{Kind: api.KindHard, Link: "a", Mtime: 1 << 40, Uid: 1 << 30, Gid: 1 << 31}},
		api.Entry{Path: "c", Node: api.Node{Kind: api.KindChar, Major: 5, Minor: 6, Mtime: at}},
		api.Entry{Path: "b", Node: api.Node{Kind: api.KindBlock, Major: 7, Minor: 8, Mtime: at}},
		api.Entry{Path: "\u00e9", Node: api.Node{Kind: api.KindFifo, Mtime: at}},
	)
}

// P8.1 to P8.3: very much data, and very many extras.
func TestMuch(t *testing.T) {
	data := strings.Repeat("0123456789", 3000000)
	reads(t, file("a", data)+file("b", data[1:])+end, plain("a", data), plain("b", data[1:]))
	var l []string
	for k := range 100000 {
		l = append(l, "key"+strconv.Itoa(k), "v")
	}
	reads(t, extras(append(l, "path", "p")...)+file("a", "b")+end, plain("p", "b"))
	reads(t, strings.Repeat(raw(""), 20000)+file("a", "b")+end, plain("a", "b"))
}

// W1, P8.1 to P8.3: any bytes are read as other hands read them.
func FuzzRead(f *testing.F) {
	s, _ := mixed()
	for _, s := range []string{"", end, end[:512], s, s[:2000], file("a", "b") + end + "x", extras("size", "3") + file("a", "abc") + end, raw("6 a=b\n6 a=b\n") + end} {
		f.Add([]byte(s))
	}
	f.Fuzz(func(t *testing.T, b []byte) { asModel(t, string(b)) })
}

// W1, P8.1 to P8.3: rows of a header, of extras and of data, whatever they tell, are read as other hands read them.
func FuzzRows(f *testing.F) {
	f.Add("n", "l", byte('0'), 3, "path", "p", "size", "3", "abc", 1024)
	f.Add("n", "l", byte('2'), 0, "SCHILY.xattr.b", "1", "SCHILY.xattr.a", "2", "", 1024)
	f.Add("", "", byte('5'), 1, "uid", "01", "linkpath", "\x00", "x", 512)
	f.Add("n", "l", byte('x'), 6, "gid", "4611686018427387904", "mtime", "4611686018427387905", "6 a=b\n", 3000)
	f.Fuzz(func(t *testing.T, name, link string, kind byte, size int, keyA, valueA, keyB, valueB, data string, zeros int) {
		b, ok := header.Print(api.Header{Name: name, Link: link, Type: kind, Size: size, Mode: size / 3, Uid: len(name), Gid: len(link), Mtime: len(data), Major: 1, Minor: 2})
		if !ok {
			return
		}
		tail := string(b) + padded(data) + strings.Repeat("\x00", max(0, min(zeros, 5000)))
		asModel(t, tail)
		asModel(t, string(b)+tail)
		if records, ok := pax.Print(pairs(keyA, valueA, keyB, valueB)); ok {
			asModel(t, raw(string(records))+tail)
			asModel(t, file("a", "b")+raw(string(records))+tail)
		}
	})
}

// P8.3, W1: any pairs.
func FuzzAttrs(f *testing.F) {
	f.Add("b", "1", "a", "2", "c", "3")
	f.Add("SCHILY.xattr.b", "1", "SCHILY.xattr.a", "2", "x", "3")
	f.Add("a=", "1", "a", "2", "a", "3")
	f.Fuzz(func(t *testing.T, a, b, c, d, e, g string) {
		for _, l := range [][]api.Pair{pairs(a, b, c, d, e, g), pairs("SCHILY.xattr."+a, b, "SCHILY.xattr."+c, d, e, g), pairs("SCHILY.xattr."+a, b, "SCHILY.xattr."+c, d, "SCHILY.xattr."+e, g)} {
			kept := slices.Clone(l)
			if got, want := untar.Attrs(l), modelAttrs(l); got != want {
				t.Errorf("%q: %q, not %q", l, got, want)
			}
			if !slices.Equal(l, kept) {
				t.Errorf("%q was changed: %q", kept, l)
			}
		}
	})
}
