package digest_test

import (
	"bytes"
	"crypto/sha256"
	"encoding/hex"
	"strings"
	"testing"

	"onionskin/api"
	"onionskin/digest"
	"onionskin/sha"
)

const abc = "sha256:ba7816bf8f01cfea414140de5dae2223b00361a396177a9cb410ff61f20015ad"

// samples are digests of all kinds: none or all of the bits, single bits and bytes, and those of bytes.
func samples() []api.Digest {
	ds := []api.Digest{{}, api.Digest(bytes.Repeat([]byte{0xff}, 32)), api.Digest(bytes.Repeat([]byte{0x0f}, 32)), api.Digest(bytes.Repeat([]byte{0xf0}, 32))}
	for k := range 256 {
		var bit api.Digest
		bit[k/8] = 1 << (k % 8)
		ds = append(ds, bit, api.Digest(bytes.Repeat([]byte{byte(k)}, 32)), api.Digest(sha256.Sum256([]byte{byte(k)})))
	}
	return ds
}

// refused tells t where s is taken as a digest, or where a digest is answered beside the false.
func refused(t *testing.T, s string) {
	t.Helper()
	if d, ok := digest.Parse(s); ok || d != (api.Digest{}) {
		t.Errorf("%q: %x, %t", s, d, ok)
	}
}

// P2.1
func TestOfIsSum(t *testing.T) {
	for _, n := range []int{0, 1, 3, 55, 56, 63, 64, 65, 1000} {
		b := bytes.Repeat([]byte{byte(n), 7}, n)
		if d := digest.Of(b); d != sha.Sum(b) || d != api.Digest(sha256.Sum256(b)) {
			t.Errorf("%d bytes: %x", len(b), d)
		}
	}
	if digest.Print(digest.Of([]byte("abc"))) != abc {
		t.Error("another digest of abc")
	}
}

// P2.1, W5
func TestOfNil(t *testing.T) {
	const none = "sha256:e3b0c44298fc1c149afbf4c8996fb92427ae41e4649b934ca495991b7852b855"
	if digest.Print(digest.Of(nil)) != none || digest.Print(digest.Of([]byte{})) != none {
		t.Error("nil and empty are not the same")
	}
}

// W6
func TestOfChangesAndKeepsNothing(t *testing.T) {
	room := bytes.Repeat([]byte("abc"), 100)
	d := digest.Of(room[:70])
	if !bytes.Equal(room, bytes.Repeat([]byte("abc"), 100)) {
		t.Error("what was handed in was changed, or the room behind it")
	}
	room[0] = 'b'
	if digest.Of(room[:70]) == d || d != api.Digest(sha256.Sum256(bytes.Repeat([]byte("abc"), 24)[:70])) {
		t.Error("what was handed in was kept")
	}
}

// P2.1: small digits, two of each byte, the higher four bits first.
func TestPrint(t *testing.T) {
	for _, c := range []struct {
		d    api.Digest
		want string
	}{
		{api.Digest{}, "sha256:" + strings.Repeat("0", 64)},
		{api.Digest{0: 0x1f}, "sha256:1f" + strings.Repeat("0", 62)},
		{api.Digest{31: 0xf1}, "sha256:" + strings.Repeat("0", 62) + "f1"},
		{api.Digest{0: 0x01, 1: 0x23, 2: 0x45, 3: 0x67, 4: 0x89, 5: 0xab, 6: 0xcd, 7: 0xef}, "sha256:0123456789abcdef" + strings.Repeat("0", 48)},
		{api.Digest(bytes.Repeat([]byte{0xff}, 32)), "sha256:" + strings.Repeat("f", 64)},
	} {
		if got := digest.Print(c.d); got != c.want {
			t.Errorf("%s, not %s", got, c.want)
		}
	}
	for _, d := range samples() {
		if got := digest.Print(d); got != "sha256:"+hex.EncodeToString(d[:]) {
			t.Errorf("%x: %s", d, got)
		}
	}
}

// P2.1
func TestParse(t *testing.T) {
	d, ok := digest.Parse(abc)
	if !ok || d != api.Digest(sha256.Sum256([]byte("abc"))) {
		t.Errorf("%x, %t", d, ok)
	}
	d, ok = digest.Parse("sha256:" + strings.Repeat("0", 64))
	if !ok || d != (api.Digest{}) {
		t.Errorf("of digits 0: %x, %t", d, ok)
	}
}

// P2.1: each digit, at each place.
func TestParseOfEachDigit(t *testing.T) {
	const digits = "0123456789abcdef"
	for at := range 64 {
		for v := range 16 {
			text := []byte("sha256:" + strings.Repeat("0", 64))
			text[7+at] = digits[v]
			var want api.Digest
			want[at/2] = byte(v)
			if at%2 == 0 {
				want[at/2] = byte(v << 4)
			}
			if d, ok := digest.Parse(string(text)); !ok || d != want {
				t.Errorf("%s: %x, %t", text, d, ok)
			}
		}
	}
}

// P2.1: whatever else stands at a place, great digits too, is no digest's text.
func TestParseOfOtherBytes(t *testing.T) {
	for at := range len(abc) {
		for v := range 256 {
			text := []byte(abc)
			text[at] = byte(v)
			isDigit := strings.IndexByte("0123456789abcdef", byte(v)) >= 0
			if text[at] == abc[at] || at >= len("sha256:") && isDigit {
				continue
			}
			refused(t, string(text))
		}
	}
}

// P2.1: great letters, one or all.
func TestParseOfGreatLetters(t *testing.T) {
	refused(t, strings.ToUpper(abc))
	refused(t, "sha256:"+strings.ToUpper(abc[7:]))
	refused(t, "SHA256:"+abc[7:])
	refused(t, "Sha256:"+abc[7:])
	refused(t, "sha256:B"+abc[8:])
	refused(t, abc[:len(abc)-1]+"D")
}

// P2.1: none but 64 digits.
func TestParseOfOtherLengths(t *testing.T) {
	for n := range 200 {
		if n != 64 {
			refused(t, "sha256:"+strings.Repeat("0", n))
			refused(t, "sha256:"+strings.Repeat("a", n))
		}
	}
	for n := range len(abc) {
		refused(t, abc[:n])
		refused(t, abc[n+1:])
		refused(t, abc[:n]+abc[n+1:])
	}
}

// P2.1
func TestParseOfOtherTexts(t *testing.T) {
	hexes := abc[7:]
	for _, s := range []string{
		"",
		hexes,
		"sha256",
		"sha256:",
		":" + hexes,
		"sha256" + hexes,
		"sha256 " + hexes,
		"sha256::" + hexes,
		"sha256:sha256:" + hexes,
		"sha512:" + hexes,
		"sha1:" + hexes,
		" " + abc,
		abc + " ",
		abc + "\n",
		abc + "\x00",
		abc + abc,
		"sha256: " + hexes[1:],
		"sha256:0x" + hexes[2:],
		"sha256:+" + hexes[1:],
		"sha256:-" + hexes[1:],
		"sha256:" + hexes[:32] + "_" + hexes[33:],
		"sha256:" + hexes[:62] + "\u00e9",
		"sha256:" + strings.Repeat("\u0660", 32),
		"sha256:" + strings.Repeat("\u0660", 64),
		"sha256:" + hexes[:63] + "\xff",
	} {
		refused(t, s)
	}
}

// P2.2
func TestLess(t *testing.T) {
	for _, c := range []struct {
		a, b api.Digest
		want bool
	}{
		{api.Digest{}, api.Digest{}, false},
		{api.Digest{0: 1}, api.Digest{0: 2}, true},
		{api.Digest{0: 2}, api.Digest{0: 1}, false},
		{api.Digest{0: 1, 1: 9}, api.Digest{0: 2}, true},
		{api.Digest{0: 2}, api.Digest{0: 1, 1: 9}, false},
		{api.Digest{31: 1}, api.Digest{30: 1}, true},
		{api.Digest{30: 1}, api.Digest{31: 1}, false},
		{api.Digest{0: 0x7f}, api.Digest{0: 0x80}, true},
		{api.Digest{0: 0xff}, api.Digest{0: 0x01}, false},
		{api.Digest{31: 0x7f}, api.Digest{31: 0xff}, true},
	} {
		if got := digest.Less(c.a, c.b); got != c.want {
			t.Errorf("%x, %x: %t", c.a, c.b, got)
		}
	}
}

// P2.2: at each place, when all before it are the same.
func TestLessAtEachPlace(t *testing.T) {
	for at := range 32 {
		a := api.Digest(sha256.Sum256([]byte("abc")))
		b := a
		a[at], b[at] = 0x7f, 0x80
		for k := at + 1; k < 32; k++ { // what is behind that place does not matter
			a[k], b[k] = 0xff, 0
		}
		if !digest.Less(a, b) || digest.Less(b, a) {
			t.Errorf("at place %d", at)
		}
	}
}

// P2.3
func TestPrintedIsParsed(t *testing.T) {
	for _, d := range samples() {
		if back, ok := digest.Parse(digest.Print(d)); !ok || back != d {
			t.Errorf("%x: %x, %t", d, back, ok)
		}
	}
}

// P2.2, P2.3: of two that differ just one is less, of two alike none.
func TestOneIsLess(t *testing.T) {
	ds := samples()
	for _, a := range ds {
		for _, b := range ds {
			if got := digest.Less(a, b); got != (bytes.Compare(a[:], b[:]) < 0) {
				t.Fatalf("%x, %x: %t", a, b, got)
			}
			if (digest.Less(a, b) != digest.Less(b, a)) != (a != b) {
				t.Fatalf("%x, %x: not one of them", a, b)
			}
		}
	}
}

// P2.1, P2.3, W1: any text is refused, or is what its digest is printed as.
func FuzzParse(f *testing.F) {
	for _, s := range []string{"", "sha256:", abc, abc[:70], abc + "0", strings.ToUpper(abc)} {
		f.Add(s)
	}
	f.Fuzz(func(t *testing.T, s string) {
		d, ok := digest.Parse(s)
		if !ok {
			refused(t, s)
		} else if digest.Print(d) != s {
			t.Errorf("%q: %x", s, d)
		}
	})
}
