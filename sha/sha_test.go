package sha_test

import (
	"bytes"
	"crypto/sha256"
	"encoding/hex"
	"strings"
	"testing"

	"onionskin/api"
	"onionskin/sha"
)

// sample is n bytes of which no block is like the next one.
func sample(n int) []byte {
	b := make([]byte, n)
	x := uint32(1)
	for k := range b {
		x = x*1664525 + 1013904223
		b[k] = byte(x >> 24)
	}
	return b
}

// known is what other hands tell of the digest of b.
func known(b []byte) api.Digest { return api.Digest(sha256.Sum256(b)) }

// edges are lengths around the ends of blocks, and of what fits ahead of the length.
var edges = []int{0, 1, 3, 4, 5, 54, 55, 56, 57, 62, 63, 64, 65, 118, 119, 120, 121, 127, 128, 129, 183, 184, 191, 192, 193, 1000}

// P1.1
func TestSumOfPublishedMessages(t *testing.T) {
	for _, c := range []struct{ message, want string }{
		{"", "e3b0c44298fc1c149afbf4c8996fb92427ae41e4649b934ca495991b7852b855"},
		{"abc", "ba7816bf8f01cfea414140de5dae2223b00361a396177a9cb410ff61f20015ad"},
		{"abcdbcdecdefdefgefghfghighijhijkijkljklmklmnlmnomnopnopq", "248d6a61d20638b8e5c026930c3e6039a33ce45964ff2167f6ecedd419db06c1"},
		{"abcdefghbcdefghicdefghijdefghijkefghijklfghijklmghijklmnhijklmnoijklmnopjklmnopqklmnopqrlmnopqrsmnopqrstnopqrstu", "cf5b16a778af8380036ce59e7b0492370b249b11e8f07a51afac45037afee9d1"},
		{strings.Repeat("a", 1000000), "cdc76e5c9914fb9281a1c7e284d73e67f1809a48a497200e046d39ccc7112cd0"},
	} {
		d := sha.Sum([]byte(c.message))
		if got := hex.EncodeToString(d[:]); got != c.want {
			t.Errorf("%d bytes: %s, not %s", len(c.message), got, c.want)
		}
	}
}

// P1.1
func TestSumAroundEndsOfBlocks(t *testing.T) {
	for n := range 400 {
		for _, b := range [][]byte{sample(n), make([]byte, n), bytes.Repeat([]byte{0xff}, n), bytes.Repeat([]byte{0x80}, n)} {
			if sha.Sum(b) != known(b) {
				t.Errorf("%d bytes, the first %x", n, b[:min(n, 1)])
			}
		}
	}
}

// P1.1: each byte, and each bit of it, at each place of a block.
func TestSumOfSingleBits(t *testing.T) {
	for k := range 130 * 8 {
		b := make([]byte, 130)
		b[k/8] = 1 << (k % 8)
		if sha.Sum(b) != known(b) {
			t.Errorf("bit %d", k)
		}
	}
}

// P1.1: a length whose bits are more than 32 bits can tell.
func TestSumOfLongMessage(t *testing.T) {
	piece := sample(1<<20 + 1)
	h, other := sha.New(), sha256.New()
	for range 1 << 9 {
		h.Write(piece)
		other.Write(piece)
	}
	if h.Len() != 1<<29+1<<9 {
		t.Errorf("length %d", h.Len())
	}
	if h.Sum() != api.Digest(other.Sum(nil)) {
		t.Error("another digest")
	}
}

// P1.1, W5
func TestSumOfNil(t *testing.T) {
	if sha.Sum(nil) != known(nil) || sha.Sum([]byte{}) != known(nil) {
		t.Error("nil and empty are not the same")
	}
}

// P1.2
func TestNewHasNothing(t *testing.T) {
	h := sha.New()
	if h.Len() != 0 || h.Sum() != known(nil) {
		t.Errorf("%d bytes, %x", h.Len(), h.Sum())
	}
}

// P1.2
func TestWriteOfNothing(t *testing.T) {
	for _, n := range edges {
		h := sha.New()
		h.Write(nil)
		h.Write(sample(n))
		h.Write([]byte{})
		h.Write(nil)
		if h.Len() != n || h.Sum() != known(sample(n)) {
			t.Errorf("%d bytes: %d, %x", n, h.Len(), h.Sum())
		}
	}
}

// P1.2: Sum and Len change nothing, and the hash goes on behind them.
func TestSumGoesOn(t *testing.T) {
	for _, first := range edges {
		for _, second := range edges {
			b := sample(first + second)
			h := sha.New()
			h.Write(b[:first])
			for range 2 {
				if h.Sum() != known(b[:first]) || h.Len() != first {
					t.Errorf("%d bytes: %d, %x", first, h.Len(), h.Sum())
				}
			}
			h.Write(b[first:])
			for range 2 {
				if h.Sum() != known(b) || h.Len() != first+second {
					t.Errorf("%d and %d bytes: %d, %x", first, second, h.Len(), h.Sum())
				}
			}
		}
	}
}

// P1.2, W2: what comes to one hash is not seen in another.
func TestHashesAreApart(t *testing.T) {
	g, h := sha.New(), sha.New()
	g.Write(sample(70))
	h.Write(sample(130))
	g.Write([]byte("g"))
	sha.Sum(sample(300))
	h.Write([]byte("h"))
	if g.Len() != 71 || g.Sum() != known(append(sample(70), 'g')) {
		t.Error("the first one")
	}
	if h.Len() != 131 || h.Sum() != known(append(sample(130), 'h')) {
		t.Error("the second one")
	}
	if n := sha.New(); n.Len() != 0 || n.Sum() != known(nil) {
		t.Error("a new one")
	}
}

// P1.3
func TestWhatIsHandedInIsNotKept(t *testing.T) {
	for _, n := range edges {
		b := sample(n)
		h := sha.New()
		h.Write(b)
		for k := range b {
			b[k] ^= 0xff
		}
		if h.Sum() != known(sample(n)) {
			t.Errorf("%d bytes: what was handed in was kept", n)
		}
		h.Write(b)
		if h.Sum() != known(append(sample(n), b...)) {
			t.Errorf("%d bytes: they are not taken in again as they are by then", n)
		}
	}
}

// P1.3, W6
func TestWhatIsHandedInIsNotChanged(t *testing.T) {
	for _, n := range edges {
		room := sample(n + 200)
		b := room[:n]
		sha.Sum(b)
		h := sha.New()
		h.Write(b)
		h.Sum()
		if !bytes.Equal(room, sample(n+200)) {
			t.Errorf("%d bytes: they, or the room behind them, were changed", n)
		}
	}
}

// P1.3, W6: an answer is the caller's own.
func TestAnswersAreApart(t *testing.T) {
	h := sha.New()
	h.Write([]byte("abc"))
	d := h.Sum()
	d[0] ^= 0xff
	if h.Sum() != known([]byte("abc")) {
		t.Error("an answer that was changed is seen in the hash")
	}
}

// P1.4
func TestTwoPieces(t *testing.T) {
	b := sample(200)
	for n := range len(b) + 1 {
		for cut := range n + 1 {
			h := sha.New()
			h.Write(b[:cut])
			h.Write(b[cut:n])
			if h.Sum() != sha.Sum(b[:n]) || h.Len() != n {
				t.Fatalf("%d bytes, cut at %d", n, cut)
			}
		}
	}
}

// P1.4
func TestPiecesOfOneSize(t *testing.T) {
	b := sample(1000)
	want := known(b)
	for size := 1; size <= len(b); size++ {
		h := sha.New()
		for at := 0; at < len(b); at += size {
			h.Write(b[at:min(at+size, len(b))])
			h.Sum()
		}
		if h.Sum() != want || h.Len() != len(b) {
			t.Errorf("pieces of %d bytes", size)
		}
	}
}

// P1.1, P1.4: any bytes, in three pieces.
func FuzzPieces(f *testing.F) {
	for _, n := range edges {
		f.Add(sample(n), n/3, n/2)
	}
	f.Fuzz(func(t *testing.T, b []byte, first, second int) {
		first = min(max(first, 0), len(b))
		second = min(max(second, first), len(b))
		h := sha.New()
		h.Write(b[:first])
		h.Write(b[first:second])
		h.Write(b[second:])
		if h.Sum() != known(b) || sha.Sum(b) != known(b) || h.Len() != len(b) {
			t.Errorf("%d bytes, cut at %d and %d", len(b), first, second)
		}
	})
}
