package sha

const (
	blockBytes  = 64
	blockWords  = 16
	lengthBytes = 8 // of a message's length, at its end
	rounds      = 64
)

// state is the words H.
type state [8]uint32

// block is as many bytes as are mixed in at once.
type block [blockBytes]byte

// roundWords are the words Kt.
var roundWords = [rounds]uint32{
	0x428a2f98, 0x71374491, 0xb5c0fbcf, 0xe9b5dba5, 0x3956c25b, 0x59f111f1, 0x923f82a4, 0xab1c5ed5,
	0xd807aa98, 0x12835b01, 0x243185be, 0x550c7dc3, 0x72be5d74, 0x80deb1fe, 0x9bdc06a7, 0xc19bf174,
	0xe49b69c1, 0xefbe4786, 0x0fc19dc6, 0x240ca1cc, 0x2de92c6f, 0x4a7484aa, 0x5cb0a9dc, 0x76f988da,
	0x983e5152, 0xa831c66d, 0xb00327c8, 0xbf597fc7, 0xc6e00bf3, 0xd5a79147, 0x06ca6351, 0x14292967,
	0x27b70a85, 0x2e1b2138, 0x4d2c6dfc, 0x53380d13, 0x650a7354, 0x766a0abb, 0x81c2c92e, 0x92722c85,
	0xa2bfe8a1, 0xa81a664b, 0xc24b8b70, 0xc76c51a3, 0xd192e819, 0xd6990624, 0xf40e3585, 0x106aa070,
	0x19a4c116, 0x1e376c08, 0x2748774c, 0x34b0bcb5, 0x391c0cb3, 0x4ed8aa4a, 0x5b9cca4f, 0x682e6ff3,
	0x748f82ee, 0x78a5636f, 0x84c87814, 0x8cc70208, 0x90befffa, 0xa4506ceb, 0xbef9a3f7, 0xc67178f2,
}

// mix is s behind one more block.
func mix(s state, next block) state {
	words := spread(next)
	a, b, c, d, e, f, g, h := s[0], s[1], s[2], s[3], s[4], s[5], s[6], s[7]
	for t := range rounds {
		t1 := h + bigSigma1(e) + choice(e, f, g) + roundWords[t] + words[t]
		t2 := bigSigma0(a) + majority(a, b, c)
		h, g, f, e, d, c, b, a = g, f, e, d+t1, c, b, a, t1+t2
	}
	return state{s[0] + a, s[1] + b, s[2] + c, s[3] + d, s[4] + e, s[5] + f, s[6] + g, s[7] + h}
}

// spread is the words W0 to W63 of a block.
func spread(b block) [rounds]uint32 {
	var w [rounds]uint32
	for t := range blockWords {
		w[t] = uint32(b[4*t])<<24 | uint32(b[4*t+1])<<16 | uint32(b[4*t+2])<<8 | uint32(b[4*t+3])
	}
	for t := blockWords; t < rounds; t++ {
		w[t] = smallSigma1(w[t-2]) + w[t-7] + smallSigma0(w[t-15]) + w[t-16]
	}
	return w
}

// rotr is x turned to the right by n bits, n from 1 to 31.
func rotr(x uint32, n int) uint32 { return x>>n | x<<(32-n) }

// smallSigma0 and the five below it are the chapter's s0, s1, S0, S1, Ch and Maj.
func smallSigma0(x uint32) uint32 { return rotr(x, 7) ^ rotr(x, 18) ^ (x >> 3) }

func smallSigma1(x uint32) uint32 { return rotr(x, 17) ^ rotr(x, 19) ^ (x >> 10) }

func bigSigma0(x uint32) uint32 { return rotr(x, 2) ^ rotr(x, 13) ^ rotr(x, 22) }

func bigSigma1(x uint32) uint32 { return rotr(x, 6) ^ rotr(x, 11) ^ rotr(x, 25) }

func choice(e, f, g uint32) uint32 { return (e & f) ^ (^e & g) }

func majority(a, b, c uint32) uint32 { return (a & b) ^ (a & c) ^ (b & c) }
