package octal_test

import (
	"archive/tar"
	"bytes"
	"math/big"
	"regexp"
	"strconv"
	"strings"
	"testing"
	"time"

	"onionskin/api"
	"onionskin/octal"
)

const most = 1 << 62

// numbers are some of all sizes, each power of 2 and its neighbours among them.
func numbers() []int {
	ns := []int{0, 0o17, 0o644, 0o755, 0o1234567, 0o76543210, 0o12345670123, 0x0123456789abcdef, 0x3fedcba987654321}
	for k := range 63 {
		for _, n := range []int{1<<k - 1, 1 << k, 1<<k + 1} {
			if n <= most {
				ns = append(ns, n)
			}
		}
	}
	return ns
}

// reads tells t where f is not read as n.
func reads(t *testing.T, f string, n int) {
	t.Helper()
	if got, ok := octal.Read([]byte(f)); got != n || !ok {
		t.Errorf("%q: %d, %t, not %d", f, got, ok, n)
	}
}

// unread tells t where f is read as a number, or where one is told beside the false.
func unread(t *testing.T, f string) {
	t.Helper()
	if got, ok := octal.Read([]byte(f)); got != 0 || ok {
		t.Errorf("%q: %d, %t", f, got, ok)
	}
}

// writes tells t where n is not written as f.
func writes(t *testing.T, n int, f string) {
	t.Helper()
	if got, ok := octal.Write(n, len(f)); string(got) != f || !ok {
		t.Errorf("%d, %d bytes: %q, %t, not %q", n, len(f), got, ok, f)
	}
}

// unwritten tells t where n is written, or where bytes are told beside the false.
func unwritten(t *testing.T, n, size int) {
	t.Helper()
	if got, ok := octal.Write(n, size); len(got) != 0 || ok {
		t.Errorf("%d, %d bytes: %q, %t", n, size, got, ok)
	}
}

var octalForm = regexp.MustCompile(`^ *([0-7]*)[\x00 ]*$`)

// modelRead is Read, told by other hands.
func modelRead(f []byte) (int, bool) {
	n := new(big.Int)
	switch {
	case len(f) == 0 || f[0] > 0x80:
		return 0, false
	case f[0] == 0x80:
		n.SetBytes(f[1:])
	default:
		// Where bytes are no UTF-8 they match nothing: they are no part of the form.
		parts := octalForm.FindSubmatch(f)
		if parts == nil {
			return 0, false
		}
		n.SetString("0"+string(parts[1]), 8)
	}
	if n.Cmp(big.NewInt(most)) > 0 {
		return 0, false
	}
	return int(n.Int64()), true
}

// modelWrite is Write, told by other hands.
func modelWrite(n, size int) (string, bool) {
	if n < 0 || n > most || size < 2 || size > 12 {
		return "", false
	}
	if digits := strconv.FormatInt(int64(n), 8); len(digits) < size {
		return strings.Repeat("0", size-1-len(digits)) + digits + "\x00", true
	}
	if b := big.NewInt(int64(n)).Bytes(); len(b) < size {
		return "\x80" + strings.Repeat("\x00", size-1-len(b)) + string(b), true
	}
	return "", false
}

// P5.1
func TestRead(t *testing.T) {
	for f, n := range map[string]int{
		"0":               0,
		"7":               7,
		"10":              8,
		"17":              15,
		"644":             0o644,
		"0000644\x00":     0o644,
		"000644 \x00":     0o644,
		"000644\x00 ":     0o644,
		"   644 \x00":     0o644,
		" 644":            0o644,
		"644 ":            0o644,
		"644\x00":         0o644,
		"01234567\x00":    0o1234567,
		"77777777":        0o77777777,
		"00000000000\x00": 0,
		"12345670123\x00": 0o12345670123,
		"777777777777":    0o777777777777,
		"  17 \x00":       15,
	} {
		reads(t, f, n)
	}
}

// P5.1, W5
func TestReadOfNoBytes(t *testing.T) {
	for _, f := range [][]byte{nil, {}, make([]byte, 0, 5), []byte("17")[:0]} {
		if n, ok := octal.Read(f); n != 0 || ok {
			t.Errorf("%d, %t", n, ok)
		}
	}
}

// P5.1: blanks ahead, zeros and blanks behind, without a digit.
func TestReadWithoutDigits(t *testing.T) {
	for _, f := range []string{
		" ", "\x00", "  ", "\x00\x00", " \x00", "\x00 ", "        ", " \x00 \x00 ", "\x00  \x00", "   \x00\x00\x00",
		strings.Repeat("\x00", 12), strings.Repeat(" ", 12), strings.Repeat(" \x00", 50),
	} {
		reads(t, f, 0)
	}
}

// P5.1: bytes 0 and blanks behind digits, mixed and many.
func TestReadOfEnds(t *testing.T) {
	for _, ahead := range []string{"", " ", "   ", strings.Repeat(" ", 100)} {
		for _, behind := range []string{"", " ", "\x00", "  ", "\x00\x00", " \x00", "\x00 ", " \x00 \x00\x00  ", strings.Repeat("\x00 ", 50)} {
			reads(t, ahead+"7"+behind, 7)
			reads(t, ahead+"0123"+behind, 0o123)
		}
	}
}

// P5.1: what is none of blanks, digits, zeros and blanks.
func TestReadOfOtherForms(t *testing.T) {
	for _, f := range []string{
		"8", "9", "08", "80", "0 8", "178", "817", "1 1", "1\x001", "1 \x001", "\x001", "\x00 1", " \x001", "\x00644\x00", "0\x000",
		"-1", "+1", "0x1", "0o17", "1_1", "1.", "1e1", "a", "A", "abc", "\t1", "1\t", "\n1", "1\n", "1\r\n", "\v1", "\f1", "\x011", "1\x01", "1\x7f",
		"1\x80", "1\xff", " \x80", "\x00\x80", "\xc2\xa01", "1\xc2\xa0", "\u06611", "1\u0661", "1\u2003", "\u20031", "1\ufffd", "1 \xff",
		"000064a\x00", "000o644\x00", "        .", ". ", "/", ":", "1/", "1:",
	} {
		unread(t, f)
	}
}

// P5.1: each field of one and of two bytes, and each byte at each place of a longer one.
func TestReadOfEachByte(t *testing.T) {
	check := func(f []byte) {
		t.Helper()
		want, is := modelRead(f)
		if n, ok := octal.Read(f); n != want || ok != is {
			t.Errorf("%q: %d, %t, not %d, %t", f, n, ok, want, is)
		}
	}
	for a := range 256 {
		check([]byte{byte(a)})
		for b := range 256 {
			check([]byte{byte(a), byte(b)})
		}
		for _, f := range []string{"0000644\x00", "  644 \x00 ", "\x80\x00\x00\x01\x02", "        ", "\x00\x00\x00"} {
			for at := range len(f) {
				b := []byte(f)
				b[at] = byte(a)
				check(b)
			}
		}
	}
}

// P5.1: each field of up to six bytes, of those that matter.
func TestReadOfShortFields(t *testing.T) {
	const kinds = "\x00 078"
	count := 1
	for size := range 7 {
		f := make([]byte, size)
		for k := range count {
			for at := range f {
				f[at] = kinds[k%len(kinds)]
				k /= len(kinds)
			}
			want, is := modelRead(f)
			if n, ok := octal.Read(f); n != want || ok != is {
				t.Errorf("%q: %d, %t, not %d, %t", f, n, ok, want, is)
			}
		}
		count *= len(kinds)
	}
}

// P5.1: 2^62 in base 8, and what is greater, also what has the lowest 64 bits of a lesser one.
func TestReadOfGreatestDigits(t *testing.T) {
	greatest := "4" + strings.Repeat("0", 20)
	reads(t, greatest, most)
	reads(t, "3"+strings.Repeat("7", 20), most-1)
	unread(t, "4"+strings.Repeat("0", 19)+"1")
	unread(t, "4"+strings.Repeat("0", 18)+"10")
	unread(t, "41"+strings.Repeat("0", 19))
	unread(t, "5"+strings.Repeat("0", 20))
	unread(t, "7"+strings.Repeat("7", 20))
	unread(t, "1"+strings.Repeat("0", 21))
	unread(t, "1"+strings.Repeat("0", 20)+"5")
	unread(t, "2"+strings.Repeat("0", 20)+"5")
	unread(t, "20"+strings.Repeat("0", 19)+"5")
	unread(t, "2"+strings.Repeat("0", 21)+"5")
	unread(t, greatest+"0")
	unread(t, "1"+strings.Repeat("0", 30))
	unread(t, "1"+strings.Repeat("0", 1000))
	unread(t, strings.Repeat("7", 1000))
	for _, zeros := range []int{1, 2, 20, 1000} {
		ahead := strings.Repeat("0", zeros)
		reads(t, ahead+greatest+" \x00", most)
		reads(t, "  "+ahead+"1", 1)
		unread(t, ahead+"4"+strings.Repeat("0", 19)+"1")
		unread(t, " "+ahead+"2"+strings.Repeat("0", 21)+"5 ")
	}
}

// P5.1: base 256, behind the byte 80.
func TestReadOfBytes(t *testing.T) {
	for f, n := range map[string]int{
		"\x80":                                 0,
		"\x80\x00":                             0,
		"\x80\x00\x00\x00\x00\x00\x00\x00":     0,
		"\x80\x01":                             1,
		"\x80\x20":                             32,
		"\x80 17\x00":                          0x20313700,
		"\x80\x7f":                             127,
		"\x80\x80":                             128,
		"\x80\xff":                             255,
		"\x80\x01\x00":                         256,
		"\x80\xff\xfe":                         0xfffe,
		"\x80\x01\x02\x03\x04\x05\x06\x07\x08": 0x0102030405060708,
		"\x80\x00\x00\x00\x00\x00\x02\x00\x00\x00": 1 << 25,
		"\x80\xff\xff\xff\xff\xff\xff\xff":         1<<56 - 1,
		"\x80\x3f\xff\xff\xff\xff\xff\xff\xff":     most - 1,
		"\x80\x40\x00\x00\x00\x00\x00\x00\x00":     most,
	} {
		reads(t, f, n)
	}
}

// P5.1: 2^62 in base 256, and what is greater, also what has the lowest 64 bits of a lesser one.
func TestReadOfGreatestBytes(t *testing.T) {
	seven := strings.Repeat("\x00", 7)
	for _, zeros := range []int{0, 1, 3, 7, 8, 1000} {
		ahead := "\x80" + strings.Repeat("\x00", zeros)
		reads(t, ahead+"\x05", 5)
		reads(t, ahead+"\x40"+seven, most)
		reads(t, ahead+"\x3f"+strings.Repeat("\xff", 7), most-1)
		unread(t, ahead+"\x40"+seven[1:]+"\x01")
		unread(t, ahead+"\x40\x01"+seven[1:])
		unread(t, ahead+"\x41"+seven)
		unread(t, ahead+"\x7f"+strings.Repeat("\xff", 7))
		unread(t, ahead+"\x80"+seven)
		unread(t, ahead+strings.Repeat("\xff", 8))
		unread(t, ahead+"\x01"+seven+"\x00")
		unread(t, ahead+"\x01"+seven+"\x05")
		unread(t, ahead+"\x01\x00"+seven+"\x05")
		unread(t, ahead+"\x40"+seven+"\x00")
		unread(t, ahead+strings.Repeat("\xff", 1000))
		unread(t, ahead+"\x01"+strings.Repeat("\x00", 1000))
	}
}

// P5.1: each other byte from 80 on, ahead of whatever bytes.
func TestReadOfOtherMarks(t *testing.T) {
	for first := 0x81; first < 256; first++ {
		for _, behind := range []string{"", "\x00", "\x01", "\x00\x00\x00\x00\x00\x00\x00", "\x00\x00\x00\x00\x00\x00\x05", "\xff\xff\xff\xff\xff\xff\xff", "17\x00", " "} {
			unread(t, string([]byte{byte(first)})+behind)
		}
	}
}

// P5.2
func TestWrite(t *testing.T) {
	writes(t, 8, "010\x00")
	writes(t, 0, "0\x00")
	writes(t, 7, "7\x00")
	writes(t, 0, "0000000\x00")
	writes(t, 0o644, "0000644\x00")
	writes(t, 0o7777777, "7777777\x00")
	writes(t, 0o10000000, "\x80\x00\x00\x00\x00\x20\x00\x00")
	writes(t, 0o12345670123, "12345670123\x00")
	writes(t, 0o100000000000, "\x80\x00\x00\x00\x00\x00\x00\x02\x00\x00\x00\x00")
	writes(t, 0x0123456789abcdef, "\x80\x00\x00\x00\x01\x23\x45\x67\x89\xab\xcd\xef")
	writes(t, most, "\x80\x00\x00\x00\x40\x00\x00\x00\x00\x00\x00\x00")
	writes(t, most, "\x80\x40\x00\x00\x00\x00\x00\x00\x00")
}

// P5.2: of each size the greatest number whose digits fit, and one more; the greatest whose bytes fit, and one more.
func TestWriteThatJustFits(t *testing.T) {
	for size := 2; size <= 12; size++ {
		digits := 1 << (3 * (size - 1))
		writes(t, digits-1, strings.Repeat("7", size-1)+"\x00")
		writes(t, digits/8, "1"+strings.Repeat("0", size-2)+"\x00")
		writes(t, digits, "\x80"+string(big.NewInt(int64(digits)).FillBytes(make([]byte, size-1))))
		if size >= 9 { // all numbers fit
			writes(t, most, "\x80"+strings.Repeat("\x00", size-9)+"\x40"+strings.Repeat("\x00", 7))
			continue
		}
		all := 1 << (8 * (size - 1))
		writes(t, all-1, "\x80"+strings.Repeat("\xff", size-1))
		unwritten(t, all, size)
		unwritten(t, all+1, size)
		unwritten(t, most-1, size)
		unwritten(t, most, size)
	}
}

// P5.2: of each size many numbers.
func TestWriteOfManyNumbers(t *testing.T) {
	for size := -2; size <= 20; size++ {
		for _, n := range append(numbers(), -1, -8, most+1, api.MaxInt, api.MinInt) {
			want, is := modelWrite(n, size)
			if f, ok := octal.Write(n, size); string(f) != want || ok != is {
				t.Errorf("%d, %d bytes: %q, %t, not %q, %t", n, size, f, ok, want, is)
			}
		}
	}
}

// P5.2: numbers below 0 and above 2^62.
func TestWriteOfOtherNumbers(t *testing.T) {
	for size := 2; size <= 12; size++ {
		for _, n := range []int{-1, -2, -8, -256, api.MinInt, api.MinInt + 1, -most, most + 1, most + 2, 3 << 61, api.MaxInt - 1, api.MaxInt} {
			unwritten(t, n, size)
		}
	}
}

// P5.2: sizes at both ends, and beyond them.
func TestWriteOfOtherSizes(t *testing.T) {
	writes(t, 1, "1\x00")
	writes(t, 1, "00000000001\x00")
	for _, size := range []int{api.MinInt, -512, -12, -2, -1, 0, 1, 13, 14, 100, 1 << 32, 1<<32 + 8, 1<<62 + 8, api.MaxInt} {
		for _, n := range []int{0, 1, 7, 8, 255, 1 << 40, most} {
			unwritten(t, n, size)
		}
	}
}

// P5.3: a sum of nothing, of all, and of each byte at each place.
func TestCheck(t *testing.T) {
	const blanks = 8 * 0x20
	if got := octal.Check(make([]byte, 512)); got != blanks {
		t.Errorf("of bytes 0: %d", got)
	}
	if got := octal.Check(bytes.Repeat([]byte{0xff}, 512)); got != 504*0xff+blanks {
		t.Errorf("of bytes ff: %d", got)
	}
	if got := octal.Check(bytes.Repeat([]byte{0x20}, 512)); got != 512*0x20 {
		t.Errorf("of blanks: %d", got)
	}
	for at := range 512 {
		for _, v := range []int{0, 1, 0x1f, 0x20, 0x21, 0x7f, 0x80, 0xff} {
			b := make([]byte, 512)
			b[at] = byte(v)
			want := blanks + v
			if at >= 148 && at <= 155 {
				want = blanks
			}
			if got := octal.Check(b); got != want {
				t.Errorf("%d at place %d: %d, not %d", v, at, got, want)
			}
		}
	}
}

// P5.1, P5.3: headers that other hands wrote.
func TestCheckOfHeaders(t *testing.T) {
	for _, h := range []tar.Header{
		{Name: "a", Size: 3, Mode: 0o644, Format: tar.FormatUSTAR},
		{Name: strings.Repeat("z", 100), Mode: 0o7777, Uid: 0o7777777, Gid: 1000, ModTime: time.Unix(0o77777777777, 0), Uname: "u", Gname: "g", Format: tar.FormatUSTAR},
		{Name: "\u00ff\u07ff", Uid: 1 << 40, Size: 1 << 50, Format: tar.FormatGNU},
	} {
		var room bytes.Buffer
		if err := tar.NewWriter(&room).WriteHeader(&h); err != nil {
			t.Fatal(err)
		}
		b := room.Bytes()[:512]
		sum, ok := octal.Read(b[148:156])
		if got := octal.Check(b); !ok || got != sum {
			t.Errorf("%q: %d, not %d", h.Name, got, sum)
		}
		for _, f := range []struct{ from, to, want int }{{100, 108, int(h.Mode)}, {108, 116, h.Uid}, {116, 124, h.Gid}, {124, 136, int(h.Size)}} {
			reads(t, string(b[f.from:f.to]), f.want)
			writes(t, f.want, string(b[f.from:f.to]))
		}
		copy(b[148:], "\xff\xff\xff\xff\xff\xff\xff\xff")
		if got := octal.Check(b); got != sum {
			t.Errorf("%q, with another sum: %d, not %d", h.Name, got, sum)
		}
	}
}

// P5.3
func TestCheckOfOtherLengths(t *testing.T) {
	for _, n := range []int{0, 1, 147, 148, 149, 155, 156, 157, 256, 511, 513, 514, 1023, 1024, 1025, 512 * 512} {
		for _, v := range []byte{0, 1, 0xff} {
			if got := octal.Check(bytes.Repeat([]byte{v}, n)); got != -1 {
				t.Errorf("%d bytes: %d", n, got)
			}
		}
	}
	if octal.Check(nil) != -1 {
		t.Error("of nil")
	}
	if octal.Check(make([]byte, 511, 512)) != -1 || octal.Check(make([]byte, 512, 1024)) != 8*0x20 {
		t.Error("the room behind the bytes counts")
	}
}

// P5.4
func TestWrittenIsRead(t *testing.T) {
	for size := 2; size <= 12; size++ {
		written := 0
		for _, n := range numbers() {
			f, ok := octal.Write(n, size)
			if !ok {
				continue
			}
			written++
			if len(f) != size {
				t.Errorf("%d, %d bytes: %q", n, size, f)
			}
			reads(t, string(f), n)
		}
		if written < min(size*7, 60) {
			t.Errorf("%d bytes: but %d numbers are written", size, written)
		}
	}
}

// P5.4: all numbers that fields of two and three bytes can tell.
func TestWrittenIsReadOfShortFields(t *testing.T) {
	for size := 2; size <= 3; size++ {
		for n := range 1 << (8 * (size - 1)) {
			f, ok := octal.Write(n, size)
			if !ok || len(f) != size {
				t.Fatalf("%d, %d bytes: %q, %t", n, size, f, ok)
			}
			reads(t, string(f), n)
		}
	}
}

// W6: what is handed in is not changed, nor the room behind it.
func TestWhatIsHandedInIsNotChanged(t *testing.T) {
	for _, f := range []string{"  644 \x00", "\x80\x01\x02", "8", "\xff\x01", "", strings.Repeat("7", 512)} {
		room := []byte(f + " \x001\x80")
		octal.Read(room[:len(f)])
		octal.Check(room[:len(f)])
		if string(room) != f+" \x001\x80" {
			t.Errorf("%q: %q", f, room)
		}
	}
	want, is := octal.Read([]byte("17"))
	if n, ok := octal.Read([]byte("178")[:2]); n != want || ok != is {
		t.Errorf("the room behind the bytes is read: %d, %t", n, ok)
	}
}

// W6, W2: what is answered is the caller's own, its spare room too.
func TestAnswersAreApart(t *testing.T) {
	for _, n := range []int{0o644, 1 << 40} {
		want, _ := modelWrite(n, 8)
		a, _ := octal.Write(n, 8)
		b, _ := octal.Write(n, 8)
		a = a[:cap(a)]
		for k := range a {
			a[k] ^= 0xff
		}
		again, _ := octal.Write(n, 8)
		if string(b) != want || string(again) != want {
			t.Errorf("%d: %q, %q, not %q", n, b, again, want)
		}
	}
}

// P5.1, W1: any bytes are read as other hands read them.
func FuzzRead(f *testing.F) {
	for _, s := range []string{"", " ", "0000644\x00", "  17 \x00", "08", "\x80\x01", "\x81\x00", "\xff", "400000000000000000001", "\x80\x40\x00\x00\x00\x00\x00\x00\x01"} {
		f.Add([]byte(s))
	}
	f.Fuzz(func(t *testing.T, b []byte) {
		want, is := modelRead(b)
		if n, ok := octal.Read(b); n != want || ok != is {
			t.Errorf("%q: %d, %t, not %d, %t", b, n, ok, want, is)
		}
	})
}

// P5.2, P5.4, W1: any number is written as other hands write it, and read as it was.
func FuzzWrite(f *testing.F) {
	for _, n := range []int{0, 7, 8, 0o7777777, 0o10000000, 1 << 56, most, most + 1, -1, api.MinInt, api.MaxInt} {
		for _, size := range []int{1, 2, 8, 12, 13} {
			f.Add(n, size)
		}
	}
	f.Fuzz(func(t *testing.T, n, size int) {
		want, is := modelWrite(n, size)
		got, ok := octal.Write(n, size)
		if string(got) != want || ok != is {
			t.Errorf("%d, %d bytes: %q, %t, not %q, %t", n, size, got, ok, want, is)
		}
		if ok {
			reads(t, string(got), n)
		}
	})
}
