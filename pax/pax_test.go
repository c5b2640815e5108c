package pax_test

import (
	"archive/tar"
	"bytes"
	"fmt"
	"maps"
	"math/big"
	"slices"
	"strconv"
	"strings"
	"testing"

	"onionskin/api"
	"onionskin/pax"
)

// pairs is the pairs of a list of keys and values, one behind the other.
func pairs(texts ...string) []api.Pair {
	var l []api.Pair
	for k := 0; k < len(texts); k += 2 {
		l = append(l, api.Pair{Key: texts[k], Value: texts[k+1]})
	}
	return l
}

// record is the record of a pair, told by other hands: each number is tried, from the least one on.
func record(p api.Pair) string {
	text := " " + p.Key + "=" + p.Value + "\n"
	for size := 1; ; size++ {
		if number := strconv.Itoa(size); len(number)+len(text) == size {
			return number + text
		}
	}
}

// records is the records of l.
func records(l []api.Pair) string {
	var s string
	for _, p := range l {
		s += record(p)
	}
	return s
}

// allowed is whether a key may be.
func allowed(key string) bool { return len(key) > 0 && strings.Count(key, "=") == 0 }

// repeats is whether a key stands in l twice.
func repeats(l []api.Pair) bool {
	for k := range l {
		for _, p := range l[:k] {
			if p.Key == l[k].Key {
				return true
			}
		}
	}
	return false
}

// modelParse is Parse, told by other hands: a record is what is printed as it stands there.
func modelParse(b []byte) ([]api.Pair, api.Errno) {
	var l []api.Pair
	s := string(b)
	for len(s) > 0 {
		p, found := api.Pair{}, false
		for size := 1; size <= len(s) && !found; size++ {
			text, begun := strings.CutPrefix(s[:size], strconv.Itoa(size)+" ")
			key, value, parted := strings.Cut(text, "=")
			if !begun || !parted || !allowed(key) || !strings.HasSuffix(value, "\n") {
				continue
			}
			p = api.Pair{Key: key, Value: value[:len(value)-1]}
			found = record(p) == s[:size]
		}
		if !found {
			return nil, api.ErrForm
		}
		l = append(l, p)
		s = s[len(record(p)):]
	}
	if repeats(l) {
		return nil, api.ErrTwice
	}
	return l, api.OK
}

// modelPrint is Print, told by other hands.
func modelPrint(l []api.Pair) (string, bool) {
	for _, p := range l {
		if !allowed(p.Key) {
			return "", false
		}
	}
	if repeats(l) {
		return "", false
	}
	return records(l), true
}

// parses tells t where s is not parsed as l.
func parses(t *testing.T, s string, l []api.Pair) {
	t.Helper()
	if got, err := pax.Parse([]byte(s)); !slices.Equal(got, l) || err != api.OK {
		t.Errorf("%.200q: %.200q, %v, not %.200q", s, got, err, l)
	}
}

// refused tells t where s is not refused by that error, or where pairs are told beside it.
func refused(t *testing.T, s string, want api.Errno) {
	t.Helper()
	if got, err := pax.Parse([]byte(s)); len(got) != 0 || err != want {
		t.Errorf("%.200q: %.200q, %v, not %v", s, got, err, want)
	}
}

// prints tells t where l is not printed as s.
func prints(t *testing.T, l []api.Pair, s string) {
	t.Helper()
	if got, ok := pax.Print(l); string(got) != s || !ok {
		t.Errorf("%.200q: %.200q, %t, not %.200q", l, got, ok, s)
	}
}

// unprinted tells t where l is printed, or where bytes are told beside the false.
func unprinted(t *testing.T, l []api.Pair) {
	t.Helper()
	if got, ok := pax.Print(l); len(got) != 0 || ok {
		t.Errorf("%.200q: %.200q, %t", l, got, ok)
	}
}

// both tells t where l is not printed as s, or s not parsed as l.
func both(t *testing.T, l []api.Pair, s string) {
	t.Helper()
	prints(t, l, s)
	parses(t, s, l)
}

// finds tells t where Find of a key is not that value.
func finds(t *testing.T, l []api.Pair, key, value string) {
	t.Helper()
	if got, ok := pax.Find(l, key); got != value || !ok {
		t.Errorf("%q, %q: %q, %t, not %q", l, key, got, ok, value)
	}
}

// misses tells t where Find of a key is a value.
func misses(t *testing.T, l []api.Pair, key string) {
	t.Helper()
	if got, ok := pax.Find(l, key); got != "" || ok {
		t.Errorf("%q, %q: %q, %t", l, key, got, ok)
	}
}

// some is lists that may be printed.
func some() [][]api.Pair {
	return [][]api.Pair{
		nil,
		pairs("a", "b"),
		pairs("abcd", "e"),
		pairs("path", "x\ny=z", "size", "12", "SCHILY.xattr.user.a", "\x00\xff"),
		pairs("b", "", "a", "", " ", "", "\n", "", "\x00", ""),
		pairs("k", strings.Repeat("v", 93), "l", strings.Repeat("v", 94), "m", strings.Repeat("v", 95)),
	}
}

// P7.1, P7.2: records as they are told in full.
func TestRecords(t *testing.T) {
	both(t, pairs("a", "b"), "6 a=b\n")
	both(t, pairs("abcd", "e"), "9 abcd=e\n")
	both(t, pairs("a", "b", "path", "x\ny=z", "e", ""), "6 a=b\n14 path=x\ny=z\n5 e=\n")
	both(t, pairs("abcde", "f"), "11 abcde=f\n")
	both(t, pairs("mtime", "1350244992", "path", "foo/bar"), "20 mtime=1350244992\n16 path=foo/bar\n")
}

// P7.1, P7.2: no bytes, and no pairs.
func TestNone(t *testing.T) {
	for _, b := range [][]byte{nil, {}, []byte("6 a=b\n")[:0]} {
		if l, err := pax.Parse(b); len(l) != 0 || err != api.OK {
			t.Errorf("%q, %v", l, err)
		}
	}
	for _, l := range [][]api.Pair{nil, {}, pairs("a=", "b")[:0]} {
		if b, ok := pax.Print(l); len(b) != 0 || !ok {
			t.Errorf("%q, %t", b, ok)
		}
	}
}

// P7.1, P7.2: values of any bytes.
func TestValues(t *testing.T) {
	both(t, pairs("k", ""), "5 k=\n")
	both(t, pairs("k", "\n"), "6 k=\n\n")
	both(t, pairs("k", "\n\n\n"), "8 k=\n\n\n\n")
	both(t, pairs("k", "="), "6 k==\n")
	both(t, pairs("k", "=a=b="), "11 k==a=b=\n")
	both(t, pairs("k", " "), "6 k= \n")
	both(t, pairs("k", " a b "), "11 k= a b \n")
	both(t, pairs("k", "\x00"), "6 k=\x00\n")
	both(t, pairs("k", "\x00a\x00"), "8 k=\x00a\x00\n")
	both(t, pairs("k", "\xff\xfe"), "7 k=\xff\xfe\n")
	both(t, pairs("k", "\u00e9\u4e16"), "11 k=\u00e9\u4e16\n")
	both(t, pairs("k", "\r"), "6 k=\r\n")
	both(t, pairs("k", "\n6 a=b"), "12 k=\n6 a=b\n")
	both(t, pairs("k", "\n6 a=b\n"), "13 k=\n6 a=b\n\n")
	both(t, pairs("k", "6 k=b\n", "l", "6 k=b"), "12 k=6 k=b\n\n11 l=6 k=b\n")
	var all []byte
	for v := range 256 {
		both(t, pairs("k", string([]byte{byte(v)})), "6 k="+string([]byte{byte(v)})+"\n")
		all = append(all, byte(v))
	}
	both(t, pairs("all", string(all)), "265 all="+string(all)+"\n")
}

// P7.1, P7.2: keys of any bytes but =.
func TestKeys(t *testing.T) {
	both(t, pairs(" ", "b"), "6  =b\n")
	both(t, pairs("  a ", "b"), "9   a =b\n")
	both(t, pairs("\n", "b"), "6 \n=b\n")
	both(t, pairs("\n", "\n"), "6 \n=\n\n")
	both(t, pairs("\x00", "b"), "6 \x00=b\n")
	both(t, pairs("6", "b"), "6 6=b\n")
	both(t, pairs("6 a", "b"), "8 6 a=b\n")
	both(t, pairs("\xff", "b"), "6 \xff=b\n")
	both(t, pairs("\u00e9", "b"), "7 \u00e9=b\n")
	for v := range 256 {
		key := string([]byte{byte(v)})
		for _, key := range []string{key, key + "a", "a" + key} {
			if v == '=' {
				unprinted(t, pairs(key, "b"))
				continue
			}
			both(t, pairs(key, "b"), record(api.Pair{Key: key, Value: "b"}))
		}
	}
	long := strings.Repeat("key ", 2000)
	both(t, pairs(long, ""), "8007 "+long+"=\n")
}

// P7.1: a key that is empty, or none.
func TestKeysThatMayNotBe(t *testing.T) {
	for _, s := range []string{
		"4 =\n", "5 =b\n", "5 ==\n", "7 =a=b\n", "6 ab\n", "6 ab \n", "5 ab\n", "4 a\n", "3 \n", "4 \n\n", "4  \n", "2 ", "2\n", "1", "3 =",
		"10 abcdef\n", "11 abcdefg\n", "9 abcdef\n",
	} {
		refused(t, s, api.ErrForm)
		refused(t, "6 a=b\n"+s, api.ErrForm)
		refused(t, s+"6 a=b\n", api.ErrForm)
	}
}

// P7.1: the = that parts the key from the value is the first one.
func TestFirstEquals(t *testing.T) {
	parses(t, "9 a=b=cd\n", pairs("a", "b=cd"))
	refused(t, "9 a=b=cd\n9 a=x=cd\n", api.ErrTwice)
	parses(t, "9 a=b=cd\n9 b=a=cd\n", pairs("a", "b=cd", "b", "a=cd"))
	unprinted(t, pairs("a=b", "cd"))
}

// P7.1, P7.2: each size of a record from the least one on, and the number of another one.
func TestSizes(t *testing.T) {
	for length := range 1100 {
		p := api.Pair{Key: "k", Value: strings.Repeat("v", length)}
		want := record(p)
		both(t, []api.Pair{p}, want)
		text := " k=" + p.Value + "\n"
		size := len(want)
		for _, n := range []int{0, 1, size - 10, size - 2, size - 1, size + 1, size + 2, size + 10, size * 10, len(text)} {
			if n != size {
				refused(t, strconv.Itoa(n)+text, api.ErrForm)
			}
		}
	}
}

// P7.1, P7.2: the lengths at which a number becomes one digit longer, told in full.
func TestNumbersThatGrow(t *testing.T) {
	for behind, number := range map[int]string{
		4: "5", 7: "8", 8: "9", 9: "11", 10: "12",
		96: "98", 97: "99", 98: "101", 99: "102",
		995: "998", 996: "999", 997: "1001", 998: "1002",
		9994: "9998", 9995: "9999", 9996: "10001", 9997: "10002",
		99993: "99998", 99994: "99999", 99995: "100001",
		999992: "999998", 999993: "999999", 999994: "1000001",
	} {
		value := strings.Repeat("v", behind-len(" k=\n"))
		both(t, pairs("k", value), number+" k="+value+"\n")
	}
}

// P7.1: where two numbers would be so, the greater one is none.
func TestGreaterNumber(t *testing.T) {
	refused(t, "10 abcd=e\n", api.ErrForm)
	parses(t, "9 abcd=e\n", pairs("abcd", "e"))
	for _, greater := range []int{10, 100, 1000, 10000, 100000} {
		digits := strconv.Itoa(greater)
		value := strings.Repeat("v", greater-len(digits)-len(" k=\n"))
		greaterOne := digits + " k=" + value + "\n"
		if len(greaterOne) != greater {
			t.Fatal("no number that would be so")
		}
		refused(t, greaterOne, api.ErrForm)
		refused(t, greaterOne+"6 a=b\n", api.ErrForm)
		refused(t, "6 a=b\n"+greaterOne, api.ErrForm)
		both(t, pairs("k", value), strconv.Itoa(greater-1)+" k="+value+"\n")
	}
}

// P7.1: what is no number in base 10 without a zero ahead.
func TestNumbers(t *testing.T) {
	for _, s := range []string{
		"06 a=b\n", "07 a=b\n", "006 a=b\n", "008 a=b\n", "0 a=b\n", "00 a=b\n", "00000006 a=b\n", "0000000013 a=b\n", "000000000000000000000000000033 a=b\n",
		"+6 a=b\n", "+7 a=b\n", "-6 a=b\n", "-7 a=b\n", "6+ a=b\n", "7- a=b\n", "--8 a=b\n",
		"a=b\n", " a=b\n", "=b\n", " 6 a=b\n", " 7 a=b\n", "  8 a=b\n", "\n6 a=b\n", "\n7 a=b\n", "\t7 a=b\n",
		"x a=b\n", "a a=b\n", "6x a=b\n", "7x a=b\n", "0x8 a=b\n", "0x6 a=b\n", "0o10 a=b\n", "0b110 a=b\n", "1_0 ab=cd\n", "1_1 abc=d\n", "6. a=b\n", "7. a=b\n", "6.0 a=b\n", "8.0 a=b\n", "6e0 a=b\n", "8e0 a=b\n",
		"6\ta=b\n", "6\na=b\n", "6\x00a=b\n", "6\u00a0a=b\n", "7\u00a0a=b\n", "6=a=b\n", "6a=b\n", "5a=b\n",
		"\x006 a=b\n", "\x007 a=b\n", "6\x00 a=b\n", "7\x00 a=b\n", "\xff a=b\n",
		"\u0666 a=b\n", "\u0667 a=b\n", "\uff16 a=b\n", "\uff18 a=b\n",
		"/ a=b\n", ": a=b\n", "1: a=b\n", "1/ abcdefg=hi\n", "06", "6", "6 ", "6 a", "6 a=", "6 a=b", "x", "1", "0", "9", " ", "\n", "=",
	} {
		refused(t, s, api.ErrForm)
		refused(t, "6 k=v\n"+s, api.ErrForm)
	}
}

// P7.1: bytes that are no digits, in numbers that would be right if they were some.
func TestDigitsBeyondNine(t *testing.T) {
	for v := range 256 {
		if v >= '0' && v <= '9' {
			continue
		}
		for _, ahead := range []string{"", "1", "9", "12"} {
			tens, _ := strconv.Atoi(ahead + "0")
			for _, size := range []int{tens + v - '0', tens + int(byte(v-'0')), tens + v, tens + v&15, tens + v - 'a' + 10} {
				text := ahead + string([]byte{byte(v)}) + " k="
				if size <= len(text) {
					continue
				}
				refused(t, text+strings.Repeat("v", size-len(text)-1)+"\n", api.ErrForm)
			}
		}
	}
}

// P7.1: numbers that tell a byte too many or too few.
func TestWrongCounts(t *testing.T) {
	for _, s := range []string{
		"5 a=b\n", "7 a=b\n", "4 a=b\n", "3 a=b\n", "2 a=b\n", "1 a=b\n", "8 a=b\n", "9 a=b\n", "60 a=b\n",
		"5 a=b\n6 c=d\n", "7 a=b\n6 c=d\n", "12 a=b\n6 c=d\n", "11 a=b\n6 c=d\n", "14 a=b\n6 c=d\n",
		"5 a=\n\n", "6 a=\n", "6 a=b\n\n6 c=d\n", "5 a=\n7 b=c\n",
	} {
		refused(t, s, api.ErrForm)
	}
	parses(t, "13 a=b\n6 c=d\n", pairs("a", "b\n6 c=d"))
	parses(t, "7 a=b\n\n", pairs("a", "b\n"))
}

// P7.1: numbers that are too great for the bytes that are there, also such whose lowest bits are the right number.
func TestGreatNumbers(t *testing.T) {
	for bits := uint(8); bits <= 4000; bits++ {
		for _, add := range []int64{-8, -6, 0, 6} {
			n := new(big.Int).Lsh(big.NewInt(1), bits)
			refused(t, n.Add(n, big.NewInt(add)).String()+" a=b\n", api.ErrForm)
		}
		great := new(big.Int).Lsh(big.NewInt(1), bits)
		great.Add(great, big.NewInt(int64(len(great.String())+len(" a=b\n"))))
		refused(t, great.String()+" a=b\n", api.ErrForm)
	}
	for _, count := range []int{2, 3, 10, 18, 19, 20, 21, 100, 1000, 1000000} {
		for _, digit := range []string{"0", "1", "6", "9"} {
			many := strings.Repeat(digit, count)
			refused(t, many+" a=b\n", api.ErrForm)
			refused(t, many, api.ErrForm)
			refused(t, "6"+many+" a=b\n", api.ErrForm)
			refused(t, strings.Repeat("0", count)+"6 a=b\n", api.ErrForm)
			refused(t, strings.Repeat("0", count)+strconv.Itoa(count+6)+" a=b\n", api.ErrForm)
		}
	}
}

// P7.1: bytes behind the last record.
func TestBytesLeft(t *testing.T) {
	for _, l := range some() {
		s := records(l)
		for _, left := range []string{"\x00", "\n", " ", "1", "6", "6 ", "6 x", "6 x=", "6 x=y", "=", "x", strings.Repeat("\x00", 512), "5 =y\n", "06 x=y\n"} {
			refused(t, s+left, api.ErrForm)
		}
		for at := range s {
			if _, err := modelParse([]byte(s[:at])); err != api.OK {
				refused(t, s[:at], api.ErrForm)
			}
		}
	}
}

// P7.1: each byte at each place of records.
func TestEachByte(t *testing.T) {
	for _, s := range []string{"6 a=b\n", "9 abcd=e\n", "10 abcd=e\n", "11 abcde=f\n", "5 a=\n6 b=\n\n", "6 a=b\n6 b=a\n", "6 a=b\n6 a=b\n"} {
		for at := range len(s) {
			for v := range 256 {
				b := []byte(s)
				b[at] = byte(v)
				want, err := modelParse(b)
				if got, e := pax.Parse(b); !slices.Equal(got, want) || e != err {
					t.Errorf("%q: %q, %v, not %q, %v", b, got, e, want, err)
				}
			}
		}
	}
}

// P7.1: all short mixes of the bytes that matter.
func TestShortMixes(t *testing.T) {
	const kinds = "06 a=\n"
	count := 1
	for size := range 8 {
		b := make([]byte, size)
		for k := range count {
			for at := range b {
				b[at] = kinds[k%len(kinds)]
				k /= len(kinds)
			}
			want, err := modelParse(b)
			if got, e := pax.Parse(b); !slices.Equal(got, want) || e != err {
				t.Errorf("%q: %q, %v, not %q, %v", b, got, e, want, err)
			}
		}
		count *= len(kinds)
	}
}

// P7.1, P7.2: one key twice, next to each other and apart, with the same value and another one.
func TestTwice(t *testing.T) {
	for _, l := range [][]api.Pair{
		pairs("a", "b", "a", "b"),
		pairs("a", "b", "a", "c"),
		pairs("a", "", "a", ""),
		pairs("a", "b", "c", "d", "a", "b"),
		pairs("a", "b", "c", "d", "a", "c"),
		pairs("c", "d", "a", "b", "a", "b"),
		pairs("a", "b", "a", "c", "c", "d"),
		pairs("a", "b", "c", "d", "e", "f", "g", "h", "a", "i"),
		pairs("\n", "b", "\n", "b"),
		pairs(" ", "b", " ", "c"),
		pairs("\x00", "b", "\x00", "c"),
		pairs("a", "b", "a", "b", "a", "b"),
		pairs("path", "x", "path", strings.Repeat("x", 1000)),
	} {
		unprinted(t, l)
		refused(t, records(l), api.ErrTwice)
	}
	for _, l := range [][]api.Pair{
		pairs("a", "b", "A", "b"),
		pairs("a", "b", "a ", "b"),
		pairs("a", "b", " a", "b"),
		pairs("a", "b", "aa", "b"),
		pairs("a", "b", "a\x00", "b"),
		pairs("a", "b", "a\n", "b"),
		pairs("a", "b", "b", "b", "c", "b"),
		pairs("a", "b", "b", "a"),
		pairs("\xff", "b", "\xfe", "b", "\ufffd", "b"),
	} {
		both(t, l, records(l))
	}
}

// P7.1: what is wrong in form ahead of, between and behind a key that stands there twice.
func TestFormAheadOfTwice(t *testing.T) {
	const one = "6 a=b\n"
	for _, bad := range []string{"x", "1", "6", "06 c=d\n", "5 =d\n", "7 c=d\n", "5 c=d\n", "10 abcd=e\n", "6 cdd\n", "\n", "\x00", "6 c=d"} {
		refused(t, bad+one+one, api.ErrForm)
		refused(t, one+bad+one, api.ErrForm)
		refused(t, one+one+bad, api.ErrForm)
		refused(t, one+one+"6 c=d\n"+bad, api.ErrForm)
		refused(t, one+one+one+bad, api.ErrForm)
	}
	refused(t, one+one, api.ErrTwice)
}

// P7.2: keys that may not be, at each place.
func TestPrintOfKeysThatMayNotBe(t *testing.T) {
	for _, key := range []string{"", "=", "a=", "=a", "a=b", "==", "a\n=", " = "} {
		for _, value := range []string{"", "b", "="} {
			unprinted(t, pairs(key, value))
			unprinted(t, pairs(key, value, "c", "d"))
			unprinted(t, pairs("c", "d", key, value))
			unprinted(t, pairs("c", "d", key, value, "e", "f"))
			unprinted(t, pairs(key, value, key, value))
			unprinted(t, pairs("c", "d", "c", "d", key, value))
		}
	}
}

// P7.1, P7.2: very many records, and very long ones.
func TestMany(t *testing.T) {
	var l []api.Pair
	var room strings.Builder
	for k := range 200000 {
		p := api.Pair{Key: "key" + strconv.Itoa(k), Value: strings.Repeat("v", k%20)}
		l = append(l, p)
		room.WriteString(record(p))
	}
	s := room.String()
	both(t, l, s)
	refused(t, s+record(api.Pair{Key: "key0"}), api.ErrTwice)
	refused(t, s+record(api.Pair{Key: "key199999"}), api.ErrTwice)
	refused(t, s+s+"6", api.ErrForm)
	unprinted(t, append(slices.Clone(l), api.Pair{Key: "key7"}))
	unprinted(t, append(slices.Clone(l), api.Pair{}))
	long := strings.Repeat("\n=", 5000000)
	both(t, pairs("long", long, "k", "v"), "10000015 long="+long+"\n6 k=v\n")
}

// P7.3
func TestFind(t *testing.T) {
	l := pairs("a", "b", "path", "x\ny=z", "e", "")
	finds(t, l, "a", "b")
	finds(t, l, "path", "x\ny=z")
	finds(t, l, "e", "")
	for _, key := range []string{"", "b", "A", "pat", "path ", "paths", "a=", "a=b", "a\x00", "x\ny=z"} {
		misses(t, l, key)
	}
	misses(t, nil, "")
	misses(t, nil, "a")
	misses(t, []api.Pair{}, "a")
	misses(t, l[:0], "a")
	misses(t, l[:1], "path")
}

// P7.3: of a key that is there twice, the first one's value.
func TestFindFirst(t *testing.T) {
	finds(t, pairs("a", "b", "a", "c"), "a", "b")
	finds(t, pairs("a", "c", "a", "b"), "a", "c")
	finds(t, pairs("a", "", "a", "b"), "a", "")
	finds(t, pairs("x", "y", "a", "b", "z", "y", "a", "c", "a", "d"), "a", "b")
}

// P7.3: keys that may not stand in a record.
func TestFindOfOtherKeys(t *testing.T) {
	l := pairs("a=", "1", "", "2", "=", "3", "\n", "4", "\x00", "5", "", "6")
	for key, value := range map[string]string{"a=": "1", "": "2", "=": "3", "\n": "4", "\x00": "5"} {
		finds(t, l, key, value)
	}
	misses(t, l, "a")
	finds(t, pairs("", ""), "", "")
}

// P7.4: lists of all short keys and values.
func TestPrintedIsParsed(t *testing.T) {
	texts := []string{"", "a", "=", " ", "\n", "\x00", "0", "6", "\xff", "6 a=b\n", "abcd", strings.Repeat("k", 97), strings.Repeat("k", 995)}
	for _, a := range texts {
		for _, b := range texts {
			for _, c := range texts {
				l := pairs(a, b, c, a, b+c, c)
				want, is := modelPrint(l)
				got, ok := pax.Print(l)
				if string(got) != want || ok != is {
					t.Errorf("%q: %q, %t, not %q, %t", l, got, ok, want, is)
				}
				if ok {
					parses(t, string(got), l)
				}
			}
		}
	}
	for _, l := range some() {
		both(t, l, records(l))
	}
}

// P7.4: records that other hands wrote are parsed, and are printed as they were.
func TestRecordsOfOthers(t *testing.T) {
	for _, m := range []map[string]string{
		{"ONE.a": "b"},
		{"ONE.abc": ""},
		{"SCHILY.xattr.user.a": "\x01\n=", "SCHILY.xattr.b": strings.Repeat("v", 1000), "ONE.c": strings.Repeat("=\n", 77)},
		{"ONE.k": strings.Repeat("v", 88), "ONE.kk": strings.Repeat("v", 88), "ONE.kkk": strings.Repeat("v", 88), "ONE.kkkk": strings.Repeat("v", 88)},
		{"ONE.l": strings.Repeat("v", 986), "ONE.ll": strings.Repeat("v", 986), "ONE.lll": strings.Repeat("v", 986), "ONE.llll": strings.Repeat("v", 986)},
	} {
		var room bytes.Buffer
		if err := tar.NewWriter(&room).WriteHeader(&tar.Header{Typeflag: tar.TypeReg, Name: "a", PAXRecords: m, Format: tar.FormatPAX}); err != nil {
			t.Fatal(err)
		}
		b := room.Bytes()
		size, err := strconv.ParseInt(string(b[124:135]), 8, 64)
		if err != nil || b[156] != 'x' {
			t.Fatalf("%q", b)
		}
		got, e := pax.Parse(b[512 : 512+size])
		var want []api.Pair
		for _, key := range slices.Sorted(maps.Keys(m)) {
			want = append(want, api.Pair{Key: key, Value: m[key]})
			finds(t, got, key, m[key])
		}
		if !slices.Equal(got, want) || e != api.OK {
			t.Errorf("%q: %v, not %q", got, e, want)
		}
		prints(t, got, string(b[512:512+size]))
	}
}

// W6: what is handed in is not changed, nor the room behind it.
func TestWhatIsHandedInIsNotChanged(t *testing.T) {
	for _, s := range []string{"6 a=b\n", "6 a=b\n5 c=\n", "6 a=b\n6 a=b\n", "7 a=b\n", "6 a=b", ""} {
		room := []byte(s + "\n6 x=y\n")
		want, err := modelParse([]byte(s))
		if got, e := pax.Parse(room[:len(s)]); !slices.Equal(got, want) || e != err {
			t.Errorf("%q: %q, %v: the room behind the bytes counts", s, got, e)
		}
		if string(room) != s+"\n6 x=y\n" {
			t.Errorf("%q: %q", s, room)
		}
	}
	for _, l := range append(some(), pairs("a", "b", "a", "c"), pairs("b", "", "=", "")) {
		room := append(slices.Clone(l), pairs("a", "x", "=", "y")...)
		kept := slices.Clone(room)
		want, is := modelPrint(l)
		if got, ok := pax.Print(room[:len(l)]); string(got) != want || ok != is {
			t.Errorf("%q: %q, %t: the room behind the pairs counts", l, got, ok)
		}
		misses(t, room[:len(l)], "=x")
		pax.Find(room[:len(l)], "a")
		if !slices.Equal(room, kept) {
			t.Errorf("%q: %q", kept, room)
		}
	}
}

// W6: what is answered is the caller's own, its spare room too.
func TestAnswersAreApart(t *testing.T) {
	const s = "6 a=b\n14 path=x\ny=z\n5 e=\n"
	want := pairs("a", "b", "path", "x\ny=z", "e", "")
	in := []byte(s)
	l, _ := pax.Parse(in)
	for k := range in {
		in[k] = 'z'
	}
	if !slices.Equal(l, want) {
		t.Errorf("the pairs share the bytes that they were parsed of: %q", l)
	}
	other, _ := pax.Parse([]byte(s))
	for k := range l[:cap(l)] {
		l[:cap(l)][k] = api.Pair{Key: "z", Value: "z"}
	}
	if !slices.Equal(other, want) {
		t.Errorf("two answers share pairs: %q", other)
	}
	a, _ := pax.Print(want)
	b, _ := pax.Print(want)
	for k := range a[:cap(a)] {
		a[:cap(a)][k] = 'z'
	}
	if string(b) != s || !slices.Equal(want, pairs("a", "b", "path", "x\ny=z", "e", "")) {
		t.Errorf("two answers share bytes: %q", b)
	}
	both(t, want, s)
}

// W2: what was parsed or printed before does not matter.
func TestTwiceTheSame(t *testing.T) {
	for range 2 {
		for _, l := range some() {
			refused(t, "6 a=b\n6 a=c\n", api.ErrTwice)
			refused(t, records(l)+"x", api.ErrForm)
			unprinted(t, append(slices.Clone(l), api.Pair{}))
			both(t, l, records(l))
		}
	}
}

// P7.1, P7.4, W1: any bytes are parsed as other hands parse them, and are printed as they were.
func FuzzParse(f *testing.F) {
	for _, l := range some() {
		f.Add([]byte(records(l)))
	}
	for _, s := range []string{"6 a=b\n6 a=b\n", "10 abcd=e\n", "06 a=b\n", "7 a=b\n", "5 =b\n", "6 abc\n", "+7 a=b\n", "18446744073709551641 a=b\n"} {
		f.Add([]byte(s))
	}
	f.Fuzz(func(t *testing.T, b []byte) {
		want, err := modelParse(b)
		got, e := pax.Parse(b)
		if !slices.Equal(got, want) || e != err {
			t.Errorf("%q: %q, %v, not %q, %v", b, got, e, want, err)
		}
		if e == api.OK {
			prints(t, got, string(b))
		}
	})
}

// P7.2 to P7.4, W1: any pairs are printed as other hands print them, and are parsed as they were.
func FuzzPrint(f *testing.F) {
	f.Add("a", "b", "c", "d", 0)
	f.Add("a", "b", "a", "b", 1)
	f.Add("", "=", "=", "", 2)
	f.Add("k", "v", "path", "\n\x00=", 93)
	f.Add("k", "v", "l", "", 991)
	f.Fuzz(func(t *testing.T, a, b, c, d string, more int) {
		l := pairs(a, b+strings.Repeat("v", max(0, min(more, 20000))), c, d)
		want, is := modelPrint(l)
		got, ok := pax.Print(l)
		if string(got) != want || ok != is {
			t.Errorf("%q: %q, %t, not %q, %t", l, got, ok, want, is)
		}
		if ok {
			parses(t, string(got), l)
		}
		finds(t, l, a, l[0].Value)
		for _, key := range []string{c, b, d, fmt.Sprint(more)} {
			switch key {
			case a:
				finds(t, l, key, l[0].Value)
			case c:
				finds(t, l, key, d)
			default:
				misses(t, l, key)
			}
		}
	})
}
