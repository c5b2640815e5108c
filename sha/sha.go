// Package sha is layer 1: SHA-256: see shared/doc/01-sha.md.
package sha

import (
	"onionskin/api"
)

// Hash is the SHA-256 of bytes that come in pieces.
type Hash struct {
	state  state
	block  block // begins with what came behind the last whole block
	length int
}

// Sum is the digest of b.
func Sum(b []byte) api.Digest {
	h := New()
	h.Write(b)
	return h.Sum()
}

// New is a hash to which nothing came.
func New() *Hash {
	return &Hash{state: state{
		0x6a09e667, 0xbb67ae85, 0x3c6ef372, 0xa54ff53a,
		0x510e527f, 0x9b05688c, 0x1f83d9ab, 0x5be0cd19,
	}}
}

// Write takes b in, behind all that came.
func (h *Hash) Write(b []byte) {
	for len(b) > 0 {
		n := copy(h.block[h.length%blockBytes:], b)
		b = b[n:]
		h.length += n
		if h.length%blockBytes == 0 {
			h.state = mix(h.state, h.block)
		}
	}
}

// Sum is the digest of all that came.
func (h *Hash) Sum() api.Digest {
	padded := *h // the padding goes to a copy, so that h may go on
	padded.Write(padding(h.length))
	return lay(padded.state)
}

// Len is how many bytes came.
func (h *Hash) Len() int { return h.length }

// padding is what makes whole blocks of a message of so many bytes.
func padding(length int) []byte {
	const ahead = blockBytes - lengthBytes
	mark := 1
	zeros := (ahead - mark + blockBytes - length%blockBytes) % blockBytes
	b := make([]byte, mark+zeros+lengthBytes)
	b[0] = 0x80
	bits := uint64(length) << 3
	for k := range lengthBytes {
		b[len(b)-1-k] = byte(bits >> (8 * k))
	}
	return b
}

// lay is the words of s as bytes, the highest byte of each first.
func lay(s state) api.Digest {
	var d api.Digest
	for k, word := range s {
		four := [4]byte{byte(word >> 24), byte(word >> 16), byte(word >> 8), byte(word)}
		copy(d[len(four)*k:], four[:])
	}
	return d
}
