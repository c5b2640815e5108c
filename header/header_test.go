package header_test

import (
	"archive/tar"
	"bytes"
	"fmt"
	"io"
	"math"
	"strings"
	"testing"
	"time"

	"onionskin/api"
	"onionskin/header"
	"onionskin/octal"
)

const magic = "ustar\x0000"

// place is where a field stands.
type place struct{ at, size int }

// The fields, as the chapter tells them.
var (
	textFields   = map[string]place{"name": {0, 100}, "link": {157, 100}, "prefix": {345, 155}}
	numberFields = map[string]place{
		"mode": {100, 8}, "uid": {108, 8}, "gid": {116, 8}, "size": {124, 12}, "mtime": {136, 12}, "major": {329, 8}, "minor": {337, 8},
	}
	sumField, typeField, magicField = place{148, 8}, place{156, 1}, place{257, 8}
)

// numberOf is where a header has a field's number.
func numberOf(h *api.Header, field string) *int {
	return map[string]*int{"mode": &h.Mode, "uid": &h.Uid, "gid": &h.Gid, "size": &h.Size, "mtime": &h.Mtime, "major": &h.Major, "minor": &h.Minor}[field]
}

// with is b with a field that begins with s, and has bytes 0 behind it.
func with(b []byte, f place, s string) []byte {
	b = bytes.Clone(b)
	clear(b[f.at : f.at+f.size])
	if copy(b[f.at:f.at+f.size], s) != len(s) {
		panic("a text that is too long for its field")
	}
	return b
}

// sumOf is a block's sum, its own bytes counted as blanks.
func sumOf(b []byte) int {
	n := 0
	for _, x := range with(b, sumField, "        ") {
		n += int(x)
	}
	return n
}

// sealed is b with its right sum.
func sealed(b []byte) []byte { return with(b, sumField, fmt.Sprintf("%06o\x00 ", sumOf(b))) }

// plain is a block that tells of nothing.
func plain() []byte { return sealed(with(make([]byte, 512), magicField, magic)) }

// of is a block that tells of nothing but of a field, which begins with s.
func of(f place, s string) []byte { return sealed(with(plain(), f, s)) }

// parses tells t where b is not parsed as h.
func parses(t *testing.T, b []byte, h api.Header) {
	t.Helper()
	if got, err := header.Parse(b); got != h || err != api.OK {
		t.Errorf("%q: %+v, %v, not %+v", b, got, err, h)
	}
}

// refused tells t where b is not refused by that error, or where a header is told beside it.
func refused(t *testing.T, b []byte, want api.Errno) {
	t.Helper()
	if got, err := header.Parse(b); got != (api.Header{}) || err != want {
		t.Errorf("%q: %+v, %v, not %v", b, got, err, want)
	}
}

// prints tells t where h is not printed as b.
func prints(t *testing.T, h api.Header, b []byte) {
	t.Helper()
	if got, ok := header.Print(h); !bytes.Equal(got, b) || !ok {
		t.Errorf("%+v: %q, %t, not %q", h, got, ok, b)
	}
}

// unprinted tells t where h is printed, or where bytes are told beside the false.
func unprinted(t *testing.T, h api.Header) {
	t.Helper()
	if got, ok := header.Print(h); len(got) != 0 || ok {
		t.Errorf("%+v: %q, %t", h, got, ok)
	}
}

// modelText is a text's field, told by other hands.
func modelText(f []byte) (string, bool) {
	s, rest, _ := strings.Cut(string(f), "\x00")
	return s, strings.Count(rest, "\x00") == len(rest)
}

// modelParse is Parse, told by other hands.
func modelParse(b []byte) (api.Header, api.Errno) {
	if len(b) != 512 {
		return api.Header{}, api.ErrShort
	}
	if n, ok := octal.Read(b[148:156]); !ok || n != sumOf(b) {
		return api.Header{}, api.ErrSum
	}
	right := string(b[257:265]) == magic
	h := api.Header{Type: b[156]}
	for name, f := range numberFields {
		n, ok := octal.Read(b[f.at : f.at+f.size])
		*numberOf(&h, name) = n
		right = right && ok
	}
	texts := map[string]string{}
	for name, f := range textFields {
		s, ok := modelText(b[f.at : f.at+f.size])
		texts[name] = s
		right = right && ok
	}
	if !right {
		return api.Header{}, api.ErrForm
	}
	h.Name, h.Link = texts["name"], texts["link"]
	if texts["prefix"] != "" {
		h.Name = texts["prefix"] + "/" + h.Name
	}
	return h, api.OK
}

// modelPrint is Print, told by other hands.
func modelPrint(h api.Header) ([]byte, bool) {
	if len(h.Name) > 100 || len(h.Link) > 100 || strings.Contains(h.Name+h.Link, "\x00") {
		return nil, false
	}
	b := with(plain(), textFields["name"], h.Name)
	b = with(b, textFields["link"], h.Link)
	b[156] = h.Type
	for name, f := range numberFields {
		digits, ok := octal.Write(*numberOf(&h, name), f.size)
		if !ok {
			return nil, false
		}
		copy(b[f.at:], digits)
	}
	return sealed(b), true
}

// some are headers that can be printed.
func some() []api.Header {
	all := strings.Repeat("n", 100)
	hs := []api.Header{
		{},
		{Name: "a/b", Mode: 0o644, Uid: 1000, Gid: 100, Size: 12, Mtime: 1234567890, Type: '0'},
		{Name: "d/", Mode: 0o755, Type: '5'},
		{Name: "x", Type: '2', Link: "../y"},
		{Name: "x", Type: '1', Link: "a/b"},
		{Name: "null", Mode: 0o666, Type: '3', Major: 1, Minor: 3},
		{Name: all, Link: all, Type: 'x'},
		{Name: all[:99], Link: all[:99], Type: 'g'},
		{Name: strings.Repeat("\xff", 100), Link: strings.Repeat("\xff", 100), Type: 255, Mode: 1<<56 - 1, Uid: 1<<56 - 1, Gid: 1<<56 - 1, Size: 1<<62 - 1, Mtime: 1<<62 - 1, Major: 1<<56 - 1, Minor: 1<<56 - 1},
		{Name: "\x01", Link: "\x01", Type: 1, Mode: 1, Uid: 1, Gid: 1, Size: 1, Mtime: 1, Major: 1, Minor: 1},
		{Name: " ", Link: " ", Type: ' '},
		{Name: "/a//b/", Link: "/"},
		{Name: "ä\u2003\U0001f9c5", Link: "\xc3"},
		{Mode: 1, Uid: 2, Gid: 3, Size: 4, Mtime: 5, Major: 6, Minor: 7},
		{Mode: 1 << 50, Uid: 1 << 51, Gid: 1 << 52, Size: 1 << 60, Mtime: 1 << 61, Major: 1 << 53, Minor: 1 << 54},
	}
	return hs
}

// P6.1
func TestParse(t *testing.T) {
	b := plain()
	b = with(b, textFields["name"], "usr/bin/onion")
	b = with(b, numberFields["mode"], "0000755\x00")
	b = with(b, numberFields["uid"], "001750 \x00")
	b = with(b, numberFields["gid"], "    144 ")
	b = with(b, numberFields["size"], "00000000017\x00")
	b = with(b, numberFields["mtime"], "\x80\x00\x00\x00\x00\x00\x00\x01\x00\x00\x00\x02")
	b = with(b, typeField, "2")
	b = with(b, textFields["link"], "../skin")
	b = with(b, numberFields["major"], "7")
	b = with(b, numberFields["minor"], "        ")
	h := api.Header{Name: "usr/bin/onion", Mode: 0o755, Uid: 1000, Gid: 100, Size: 15, Mtime: 1<<32 + 2, Type: '2', Link: "../skin", Major: 7}
	parses(t, sealed(b), h)
	h.Name = "root/usr/bin/onion"
	parses(t, sealed(with(b, textFields["prefix"], "root")), h)
	parses(t, plain(), api.Header{})
}

// P6.1, W5: all other sizes, with a right sum and a wrong one.
func TestParseOfOtherSizes(t *testing.T) {
	long := append(plain(), make([]byte, 2048)...)
	full := bytes.Repeat([]byte("z"), len(long))
	for _, size := range []int{0, 1, 148, 156, 500, 511, 513, 514, 1023, 1024, 2048} {
		refused(t, long[:size], api.ErrShort)
		refused(t, full[:size], api.ErrShort)
	}
	refused(t, nil, api.ErrShort)
	refused(t, []byte{}, api.ErrShort)
	parses(t, long[:512], api.Header{})
}

// P6.1: a block of bytes 0 has the sum 0, where 256 would be right.
func TestParseOfZeros(t *testing.T) {
	refused(t, make([]byte, 512), api.ErrSum)
	// With that sum it is still no header.
	refused(t, with(make([]byte, 512), sumField, "000400\x00 "), api.ErrForm)
}

// P6.1: the sum may stand in each way in which a number may.
func TestParseOfSums(t *testing.T) {
	for _, h := range some() {
		b, ok := header.Print(h)
		if !ok {
			t.Fatalf("%+v", h)
		}
		n := sumOf(b)
		for _, form := range []string{"%06o\x00 ", "%06o \x00", "%07o\x00", "%07o ", "%08o", "%o", "%o ", "%7o\x00", "%8o"} {
			parses(t, with(b, sumField, fmt.Sprintf(form, n)), h)
			for _, wrong := range []int{0, 1, n - 8, n - 1, n + 1, n + 8, 2 * n, n - 256, n % 256, 0o777777} {
				if len(fmt.Sprintf(form, wrong)) <= 8 {
					refused(t, with(b, sumField, fmt.Sprintf(form, wrong)), api.ErrSum)
				}
			}
		}
		for _, add := range []int{-1, 0, 1, 1 << 24, 1 << 32, 1 << 48} {
			sum := make([]byte, 8)
			for k := range 7 {
				sum[7-k] = byte((n + add) >> (8 * k))
			}
			sum[0] = 0x80
			if add == 0 {
				parses(t, with(b, sumField, string(sum)), h)
			} else {
				refused(t, with(b, sumField, string(sum)), api.ErrSum)
			}
		}
	}
}

// P6.1: the sum's own bytes count as blanks, not as bytes 0, nor as what they are; and no byte counts as less than none.
func TestParseOfSumsOtherwiseCounted(t *testing.T) {
	for _, h := range some() {
		b, _ := header.Print(h)
		n := sumOf(b)
		own, below := 0, n
		for k, x := range b {
			if k >= 148 && k < 156 {
				own += int(x)
			} else if x >= 0x80 {
				below -= 256
			}
		}
		refused(t, with(b, sumField, fmt.Sprintf("%06o\x00 ", n-256)), api.ErrSum)
		if own != 256 {
			refused(t, with(b, sumField, fmt.Sprintf("%06o\x00 ", n-256+own)), api.ErrSum)
		}
		if below != n && below >= 0 {
			refused(t, with(b, sumField, fmt.Sprintf("%06o\x00 ", below)), api.ErrSum)
		}
	}
}

// P6.1: a sum that is no number.
func TestParseOfNoSum(t *testing.T) {
	right := fmt.Sprintf("%06o", sumOf(plain()))
	for _, sum := range []string{
		"", "        ", "\x00" + right, right + "8", right + "\x00x", "x" + right, right + "x", right + "\t", "-" + right, "+" + right, "0o" + right,
		right[:3] + " " + right[3:], right[:3] + "\x00" + right[3:], right + " 0", "8" + right, "\x81\x00\x00\x00\x00\x00\x00\x01", "\xff\xff\xff\xff\xff\xff\xff\xff",
		"\xff" + right,
	} {
		refused(t, with(plain(), sumField, sum), api.ErrSum)
	}
}

// P6.1: of several errors, the first one.
func TestParseOfSeveralErrors(t *testing.T) {
	for _, bad := range [][]byte{
		of(magicField, "ustar  \x00"),
		of(numberFields["mode"], "x"),
		of(numberFields["minor"], "x"),
		of(textFields["name"], "a\x00b"),
		of(textFields["prefix"], "a\x00b"),
	} {
		refused(t, bad, api.ErrForm)
		wrong := with(bad, sumField, fmt.Sprintf("%06o\x00 ", sumOf(bad)+1))
		refused(t, wrong, api.ErrSum)
		refused(t, with(bad, sumField, "x"), api.ErrSum)
		refused(t, wrong[:511], api.ErrShort)
		refused(t, append(wrong, 0), api.ErrShort)
		refused(t, bad[:511], api.ErrShort)
		refused(t, append(bad, 0), api.ErrShort)
	}
}

// P6.1: each other byte at each place of magic.
func TestParseOfMagic(t *testing.T) {
	for at := range len(magic) {
		for x := range 256 {
			b := plain()
			if b[257+at] != byte(x) {
				b[257+at] = byte(x)
				refused(t, sealed(b), api.ErrForm)
			}
		}
	}
	for _, other := range []string{"", "ustar", "ustar  \x00", "ustar\x00  ", "ustar00", "USTAR\x0000", "ustar000", "00ustar\x00", "star\x0000", " ustar\x000"} {
		refused(t, of(magicField, other), api.ErrForm)
	}
}

// numbersOf are texts that a number's field may begin with, in each of the forms of numbers, and their numbers.
func numbersOf(f place) map[string]int {
	rest := f.size - 1
	digits := func(d string, n int) string { return strings.Repeat(d, n) }
	ns := map[string]int{
		"":                                       0,
		" ":                                      0,
		digits(" ", f.size):                      0,
		"0":                                      0,
		"1":                                      1,
		"7":                                      7,
		"10":                                     8,
		digits("0", rest):                        0,
		digits("0", f.size):                      0,
		digits("0", rest) + "1":                  1,
		"1" + digits("0", rest):                  1 << (3 * rest),
		digits("7", rest):                        1<<(3*rest) - 1,
		digits("7", rest) + " ":                  1<<(3*rest) - 1,
		" " + digits("7", rest):                  1<<(3*rest) - 1,
		digits("7", f.size):                      1<<(3*f.size) - 1,
		digits(" ", rest) + "7":                  7,
		"7" + digits(" ", rest):                  7,
		"\x80":                                   0,
		"\x80" + digits("\x00", rest-1) + "\x01": 1,
		"\x80" + digits("\x00", rest-1) + "\xff": 255,
		"\x80" + digits("\x00", rest-7) + "\x01": 1 << 48,
		"\x80" + digits("\x00", rest-7) + digits("\xff", 7): 1<<56 - 1,
	}
	if rest > 7 {
		ns["\x80"+digits("\x00", rest-8)+"\x40"] = 1 << 62
		ns["\x80"+digits("\x00", rest-8)+"\x3f"+digits("\xff", 7)] = 1<<62 - 1
	}
	return ns
}

// P6.1: numbers at the ends of what their fields hold, in each of their forms.
func TestParseOfNumbers(t *testing.T) {
	for name, f := range numberFields {
		for s, n := range numbersOf(f) {
			h := api.Header{}
			*numberOf(&h, name) = n
			parses(t, of(f, s), h)
		}
	}
}

// P6.1: fields that have no number, or one that is too great.
func TestParseOfNoNumbers(t *testing.T) {
	for _, f := range numberFields {
		bad := []string{
			"x", "8", "9", "1x", "1 1", "1\x001", "\x001", " \x001", "-1", "+1", "0x1", "1\t", "\t1", "1\xff", "\x81", "\xff", "\x90",
			"\xff" + strings.Repeat("\xff", f.size-1), strings.Repeat("0", f.size-1) + "8", strings.Repeat("7", f.size-1) + "x", "/", ":",
		}
		if f.size > 8 {
			zeros := strings.Repeat("\x00", f.size-9)
			bad = append(bad, "\x80"+zeros+"\x40\x00\x00\x00\x00\x00\x00\x01", "\x80"+zeros+"\x41", "\x80"+zeros+"\x80", "\x80\x01", "\x80"+strings.Repeat("\xff", f.size-1))
		}
		for _, s := range bad {
			refused(t, of(f, s), api.ErrForm)
		}
	}
}

// textOf is where a header has a text of one of its fields alone.
func textOf(field, s string) api.Header {
	switch {
	case field == "link":
		return api.Header{Link: s}
	case field == "prefix" && s != "":
		return api.Header{Name: s + "/"}
	case field == "name":
		return api.Header{Name: s}
	}
	return api.Header{}
}

// P6.1: texts of each length, up to those that fill their fields.
func TestParseOfTexts(t *testing.T) {
	for name, f := range textFields {
		for size := range f.size + 1 {
			for _, c := range []string{"a", "\x01", "\xff", "/", " "} {
				s := strings.Repeat(c, size)
				parses(t, of(f, s), textOf(name, s))
			}
		}
	}
}

// P6.1: another byte behind a byte 0, wherever they stand.
func TestParseOfNoTexts(t *testing.T) {
	for _, f := range textFields {
		for at := range f.size {
			for behind := at + 1; behind < f.size; behind++ {
				s := []byte(strings.Repeat("a", at) + strings.Repeat("\x00", behind-at) + "z")
				refused(t, of(f, string(s)), api.ErrForm)
			}
			if at > 0 && at < f.size-1 {
				refused(t, of(f, strings.Repeat("a", at)+"\x00"+strings.Repeat("a", f.size-1-at)), api.ErrForm)
			}
		}
	}
	for _, x := range []string{"\x01", " ", "/", "\x80", "\xff"} {
		for _, f := range textFields {
			refused(t, of(f, "a\x00"+x), api.ErrForm)
			refused(t, of(f, "\x00"+x), api.ErrForm)
		}
	}
}

// P6.1: a prefix and a slash ahead of a name, if there is a prefix.
func TestParseOfPrefixes(t *testing.T) {
	longName, longPrefix := strings.Repeat("n", 100), strings.Repeat("p", 155)
	for _, c := range []struct{ prefix, name, want string }{
		{"", "", ""},
		{"", "a", "a"},
		{"", "/a", "/a"},
		{"p", "", "p/"},
		{"p", "a", "p/a"},
		{"p", "/a", "p//a"},
		{"p/", "a", "p//a"},
		{"/", "a", "//a"},
		{"/", "", "//"},
		{"p/q", "a/b/", "p/q/a/b/"},
		{".", ".", "./."},
		{"", longName, longName},
		{longPrefix, "", longPrefix + "/"},
		{longPrefix, "a", longPrefix + "/a"},
		{"p", longName, "p/" + longName},
		{longPrefix, longName, longPrefix + "/" + longName},
	} {
		b := with(of(textFields["prefix"], c.prefix), textFields["name"], c.name)
		parses(t, sealed(b), api.Header{Name: c.want})
		// A prefix is the name's alone.
		b = with(b, textFields["link"], "l")
		parses(t, sealed(b), api.Header{Name: c.want, Link: "l"})
	}
}

// P6.1: each byte is a type.
func TestParseOfTypes(t *testing.T) {
	for x := range 256 {
		parses(t, of(typeField, string([]byte{byte(x)})), api.Header{Type: byte(x)})
	}
}

// P6.1: each byte of a field, the first and the last among them, is that field's, and what is no field does not matter.
func TestParseOfEachPlace(t *testing.T) {
	base := plain()
	want := api.Header{Type: 'y'}
	base[156] = 'y'
	for _, f := range numberFields {
		copy(base[f.at:], strings.Repeat("0", f.size))
	}
	texts := map[string]string{}
	for name, f := range textFields {
		texts[name] = strings.Repeat("x", f.size)
		copy(base[f.at:], texts[name])
	}
	whole := func(texts map[string]string, h api.Header) api.Header {
		h.Name, h.Link = texts["prefix"]+"/"+texts["name"], texts["link"]
		return h
	}
	parses(t, sealed(base), whole(texts, want))
	change := func(at int, x byte, h api.Header) {
		b := bytes.Clone(base)
		b[at] = x
		parses(t, sealed(b), h)
	}
	for name, f := range numberFields {
		for k := range f.size {
			h := whole(texts, want)
			*numberOf(&h, name) = 1 << (3 * (f.size - 1 - k))
			change(f.at+k, '1', h)
		}
	}
	for name, f := range textFields {
		for k := range f.size {
			other := map[string]string{}
			for n, s := range texts {
				other[n] = s
			}
			other[name] = strings.Repeat("x", k) + "z" + strings.Repeat("x", f.size-1-k)
			change(f.at+k, 'z', whole(other, want))
		}
	}
	for at := 265; at < 329; at++ {
		change(at, 'z', whole(texts, want))
		change(at, 0xff, whole(texts, want))
	}
	for at := 500; at < 512; at++ {
		change(at, 'z', whole(texts, want))
		change(at, 0xff, whole(texts, want))
	}
}

// P6.1: what others wrote, too.
func TestParseOfOthersHeaders(t *testing.T) {
	for _, h := range []tar.Header{
		{Name: "a", Mode: 0o644, Typeflag: tar.TypeReg},
		{Name: strings.Repeat("d/", 60) + "name", Mode: 0o600, Uid: 1000, Gid: 1000, Typeflag: tar.TypeReg, ModTime: time.Unix(1<<33-1, 0)},
		{Name: "s", Linkname: strings.Repeat("l", 100), Typeflag: tar.TypeSymlink, Uname: "root", Gname: "wheel"},
		{Name: "dev", Devmajor: 0o7777777, Devminor: 1, Typeflag: tar.TypeChar},
		{Name: "dir/", Mode: 0o1777, Typeflag: tar.TypeDir},
	} {
		h.Format = tar.FormatUSTAR
		var b bytes.Buffer
		if err := tar.NewWriter(&b).WriteHeader(&h); err != nil {
			t.Fatal(err)
		}
		mtime := int(h.ModTime.Unix())
		if h.ModTime.IsZero() {
			mtime = 0
		}
		parses(t, b.Bytes()[:512], api.Header{
			Name: h.Name, Mode: int(h.Mode), Uid: h.Uid, Gid: h.Gid, Mtime: mtime, Type: h.Typeflag, Link: h.Linkname, Major: int(h.Devmajor), Minor: int(h.Devminor),
		})
	}
}

// P6.2
func TestPrint(t *testing.T) {
	h := api.Header{Name: "a/b", Mode: 0o644, Uid: 1 << 30, Gid: 8, Size: 12, Mtime: 1 << 40, Type: '2', Link: "x", Major: 1, Minor: 0o7777777}
	want := "a/b" + strings.Repeat("\x00", 97) +
		"0000644\x00" + "\x80\x00\x00\x00\x40\x00\x00\x00" + "0000010\x00" +
		"00000000014\x00" + "\x80\x00\x00\x00\x00\x00\x01\x00\x00\x00\x00\x00" +
		"------\x00 " + "2" + "x" + strings.Repeat("\x00", 99) +
		"ustar\x0000" + strings.Repeat("\x00", 64) + "0000001\x00" + "7777777\x00" + strings.Repeat("\x00", 155+12)
	prints(t, h, sealed([]byte(want)))
	zeros := "0000000\x00"
	want = strings.Repeat("\x00", 100) + zeros + zeros + zeros + "0000" + zeros + "0000" + zeros + "------\x00 " + strings.Repeat("\x00", 101) +
		"ustar\x0000" + strings.Repeat("\x00", 64) + zeros + zeros + strings.Repeat("\x00", 167)
	prints(t, api.Header{}, []byte(strings.Replace(want, "------", "007077", 1)))
}

// P6.2: against the chapter's words, told by other hands.
func TestPrintOfSome(t *testing.T) {
	for _, h := range some() {
		b, ok := modelPrint(h)
		if !ok {
			t.Fatalf("%+v", h)
		}
		prints(t, h, b)
	}
}

// P6.2: texts of each length up to 100, and longer ones.
func TestPrintOfTexts(t *testing.T) {
	for size := range 101 {
		s := strings.Repeat("t", size)
		prints(t, api.Header{Name: s}, sealed(with(sealedOf(api.Header{}), textFields["name"], s)))
		prints(t, api.Header{Link: s}, sealed(with(sealedOf(api.Header{}), textFields["link"], s)))
	}
	for _, size := range []int{101, 102, 155, 156, 256, 512, 1000} {
		s := strings.Repeat("t", size)
		for _, s := range []string{s, "d/" + s[2:], s[:50] + "/" + s[51:], s[:99] + "/" + s[100:], s[:100] + "/" + s[101:]} {
			unprinted(t, api.Header{Name: s})
			unprinted(t, api.Header{Link: s})
			unprinted(t, api.Header{Name: s, Link: s})
		}
	}
}

// sealedOf is the block of a header that can be printed.
func sealedOf(h api.Header) []byte {
	b, _ := modelPrint(h)
	return b
}

// P6.2: a byte 0 at each place of a text.
func TestPrintOfZeros(t *testing.T) {
	for _, size := range []int{1, 2, 3, 99, 100, 101, 200} {
		for at := range size {
			s := []byte(strings.Repeat("a", size))
			s[at] = 0
			unprinted(t, api.Header{Name: string(s)})
			unprinted(t, api.Header{Link: string(s)})
			unprinted(t, api.Header{Name: "a", Link: string(s)})
		}
		unprinted(t, api.Header{Name: strings.Repeat("\x00", size)})
		unprinted(t, api.Header{Link: strings.Repeat("\x00", size)})
	}
}

// P6.2: numbers at the ends of what their fields hold, and beyond.
func TestPrintOfNumbers(t *testing.T) {
	for name, f := range numberFields {
		digits := 3 * (f.size - 1)
		fit := []int{0, 1, 7, 8, 0o644, 1<<digits - 1, 1 << digits, 1<<digits + 1, 1<<56 - 1}
		beyond := []int{-1, -2, -1 << 33, math.MinInt, math.MaxInt, 1<<62 + 1}
		if f.size > 8 {
			fit = append(fit, 1<<56, 1<<61, 1<<62-1, 1<<62)
		} else {
			beyond = append(beyond, 1<<56, 1<<56+1, 1<<61, 1<<62)
		}
		for _, h := range []api.Header{{}, {Name: "n", Mode: 1, Uid: 2, Gid: 3, Size: 4, Mtime: 5, Type: '0', Link: "l", Major: 6, Minor: 7}} {
			for _, n := range fit {
				*numberOf(&h, name) = n
				b, ok := modelPrint(h)
				if !ok {
					t.Fatal(name, n)
				}
				prints(t, h, b)
			}
			for _, n := range beyond {
				*numberOf(&h, name) = n
				unprinted(t, h)
			}
		}
	}
}

// P6.2: each byte is a type.
func TestPrintOfTypes(t *testing.T) {
	for x := range 256 {
		b := sealedOf(api.Header{})
		b[156] = byte(x)
		prints(t, api.Header{Type: byte(x)}, sealed(b))
	}
}

// P6.2: others read what is printed.
func TestPrintForOthers(t *testing.T) {
	for _, h := range []api.Header{
		{Name: "a/b", Mode: 0o644, Uid: 1 << 30, Gid: 5, Mtime: 99, Type: '0'},
		{Name: strings.Repeat("n", 100), Type: '2', Link: strings.Repeat("l", 100), Mtime: 1 << 40},
		{Name: "dev", Type: '3', Major: 7, Minor: 9},
		{Name: "dir/", Mode: 0o755, Type: '5'},
	} {
		b, _ := header.Print(h)
		got, err := tar.NewReader(io.MultiReader(bytes.NewReader(b), bytes.NewReader(make([]byte, 1024)))).Next()
		if err != nil {
			t.Errorf("%+v: %v", h, err)
			continue
		}
		back := api.Header{
			Name: got.Name, Mode: int(got.Mode), Uid: got.Uid, Gid: got.Gid, Size: int(got.Size), Mtime: int(got.ModTime.Unix()), Type: got.Typeflag, Link: got.Linkname,
			Major: int(got.Devmajor), Minor: int(got.Devminor),
		}
		if back != h {
			t.Errorf("%+v, not %+v", back, h)
		}
	}
}

// P6.3, W5
func TestEmpty(t *testing.T) {
	zeros := make([]byte, 2048)
	for _, size := range []int{0, 1, 256, 511, 512, 513, 1024, 2048} {
		if got := header.Empty(zeros[:size]); got != (size == 512) {
			t.Errorf("%d bytes 0: %t", size, got)
		}
	}
	if header.Empty(nil) || header.Empty([]byte{}) {
		t.Error("no bytes")
	}
	for at := range 512 {
		for _, x := range []byte{1, ' ', '0', 0x7f, 0x80, 0xff} {
			b := make([]byte, 512)
			b[at] = x
			if header.Empty(b) {
				t.Errorf("%d at %d", x, at)
			}
		}
	}
	if header.Empty(plain()) || header.Empty(bytes.Repeat([]byte("0"), 512)) {
		t.Error("a header, or digits")
	}
	// What stands behind the 512 bytes does not matter.
	if !header.Empty(append(make([]byte, 512), "xyz"...)[:512]) {
		t.Error("bytes 0, and spare room that has others")
	}
}

// P6.4
func TestPrintThenParse(t *testing.T) {
	hs := some()
	for name := range numberFields {
		for k := range 63 {
			for _, n := range []int{1<<k - 1, 1 << k, 1<<k + 1} {
				h := api.Header{Name: "n", Link: "l", Type: '3', Mode: 1, Uid: 2, Gid: 3, Size: 4, Mtime: 5, Major: 6, Minor: 7}
				*numberOf(&h, name) = n
				hs = append(hs, h)
			}
		}
	}
	printed := 0
	for _, h := range hs {
		if b, ok := header.Print(h); ok {
			parses(t, b, h)
			printed++
		}
	}
	if printed < 7*3*56 {
		t.Errorf("%d of %d", printed, len(hs))
	}
}

// W6: what is handed in is not changed, nor its spare room, nor kept.
func TestHandedIn(t *testing.T) {
	for _, b := range [][]byte{plain(), make([]byte, 512), make([]byte, 100), sealedOf(some()[6]), of(magicField, "x"), of(textFields["link"], "a\x00b")} {
		roomy := append(bytes.Clone(b), bytes.Repeat([]byte("s"), 600)...)
		before := bytes.Clone(roomy)
		header.Parse(roomy[:len(b)])
		header.Empty(roomy[:len(b)])
		if !bytes.Equal(roomy, before) {
			t.Errorf("%q: changed", b)
		}
	}
	b := sealed(with(sealedOf(some()[6]), textFields["prefix"], "p"))
	h, _ := header.Parse(b)
	short, _ := header.Parse(sealedOf(some()[6]))
	clear(b)
	want := some()[6]
	if short != want {
		t.Errorf("%+v", short)
	}
	want.Name = "p/" + want.Name
	if h != want {
		t.Errorf("%+v", h)
	}
}

// W6: what is answered is new memory, spare room too.
func TestAnswers(t *testing.T) {
	h := some()[1]
	a, _ := header.Print(h)
	b, _ := header.Print(h)
	want := bytes.Clone(b)
	for _, x := range [][]byte{a[:cap(a)], append(a, 'x')} {
		for k := range x {
			x[k] = 'z'
		}
	}
	if !bytes.Equal(b, want) {
		t.Error("two answers share bytes")
	}
	prints(t, h, want)
}

// W2: what was parsed or printed before does not matter.
func TestTwice(t *testing.T) {
	for range 2 {
		for _, h := range some() {
			b, _ := header.Print(h)
			refused(t, b[:511], api.ErrShort)
			unprinted(t, api.Header{Size: -1})
			parses(t, b, h)
			prints(t, h, sealedOf(h))
		}
	}
}

// P6.1, P6.3, W1: any bytes, with the sum that they have, and with the right one.
func FuzzParse(f *testing.F) {
	for _, h := range some() {
		f.Add(sealedOf(h), 0, []byte{})
	}
	f.Add([]byte{}, 0, []byte{})
	f.Add(make([]byte, 512), 1, []byte{0})
	f.Add(plain(), 257, []byte("ustar  "))
	f.Add(plain(), 345, []byte("prefix"))
	f.Add(plain(), 100, []byte("77777777"))
	f.Fuzz(func(t *testing.T, b []byte, at int, s []byte) {
		blocks := [][]byte{b}
		if len(b) == 512 {
			blocks = append(blocks, sealed(b), sealed(with(b, magicField, magic)))
		}
		over := plain()
		if at >= 0 && at < len(over) {
			copy(over[at:], s)
			blocks = append(blocks, over, sealed(over), sealed(with(over, magicField, magic)))
		}
		for _, b := range blocks {
			want, err := modelParse(b)
			got, e := header.Parse(b)
			if got != want || e != err {
				t.Errorf("%q: %+v, %v, not %+v, %v", b, got, e, want, err)
			}
			if header.Empty(b) != bytes.Equal(b, make([]byte, 512)) {
				t.Errorf("%q: Empty", b)
			}
		}
	})
}

// P6.2, P6.4, W1
func FuzzPrint(f *testing.F) {
	for _, h := range some() {
		f.Add(h.Name, h.Link, h.Type, h.Mode, h.Uid, h.Gid, h.Size, h.Mtime, h.Major, h.Minor)
	}
	f.Add("a\x00b", "", byte(0), -1, 0, 0, 1<<62, 1<<62+1, 1<<56, 1<<56-1)
	f.Fuzz(func(t *testing.T, name, link string, kind byte, mode, uid, gid, size, mtime, major, minor int) {
		h := api.Header{Name: name, Mode: mode, Uid: uid, Gid: gid, Size: size, Mtime: mtime, Type: kind, Link: link, Major: major, Minor: minor}
		want, is := modelPrint(h)
		got, ok := header.Print(h)
		if !bytes.Equal(got, want) || ok != is {
			t.Errorf("%+v: %q, %t, not %q, %t", h, got, ok, want, is)
		}
		if ok {
			parses(t, got, h)
		}
	})
}
