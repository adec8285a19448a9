// Package sha is SHA-256 of FIPS 180-4, at a stroke or in pieces: see shared/doc/01-sha.md.
package sha

const (
	blockLen   = 64  // bytes of a block
	countLen   = 8   // bytes of the number of bits, at the end of the last block
	sumLen     = 32  // bytes of a sum
	roundCount = 64  // rounds of a block
	endMark    = 128 // the byte behind what was written
)

// rounds are the words k0 to k63.
var rounds = [roundCount]uint32{
	0x428a2f98, 0x71374491, 0xb5c0fbcf, 0xe9b5dba5, 0x3956c25b, 0x59f111f1, 0x923f82a4, 0xab1c5ed5,
	0xd807aa98, 0x12835b01, 0x243185be, 0x550c7dc3, 0x72be5d74, 0x80deb1fe, 0x9bdc06a7, 0xc19bf174,
	0xe49b69c1, 0xefbe4786, 0x0fc19dc6, 0x240ca1cc, 0x2de92c6f, 0x4a7484aa, 0x5cb0a9dc, 0x76f988da,
	0x983e5152, 0xa831c66d, 0xb00327c8, 0xbf597fc7, 0xc6e00bf3, 0xd5a79147, 0x06ca6351, 0x14292967,
	0x27b70a85, 0x2e1b2138, 0x4d2c6dfc, 0x53380d13, 0x650a7354, 0x766a0abb, 0x81c2c92e, 0x92722c85,
	0xa2bfe8a1, 0xa81a664b, 0xc24b8b70, 0xc76c51a3, 0xd192e819, 0xd6990624, 0xf40e3585, 0x106aa070,
	0x19a4c116, 0x1e376c08, 0x2748774c, 0x34b0bcb5, 0x391c0cb3, 0x4ed8aa4a, 0x5b9cca4f, 0x682e6ff3,
	0x748f82ee, 0x78a5636f, 0x84c87814, 0x8cc70208, 0x90befffa, 0xa4506ceb, 0xbef9a3f7, 0xc67178f2,
}

// Hash is a sum that is being made.
type Hash struct {
	state  [8]uint32      // behind the whole blocks
	block  [blockLen]byte // its first length % blockLen bytes wait for the rest of their block
	length uint64         // bytes written
}

// New is a sum of nothing.
func New() *Hash {
	return &Hash{state: [8]uint32{
		0x6a09e667, 0xbb67ae85, 0x3c6ef372, 0xa54ff53a, 0x510e527f, 0x9b05688c, 0x1f83d9ab, 0x5be0cd19,
	}}
}

// Write lays s behind what was written.
func (h *Hash) Write(s string) {
	for len(s) > 0 {
		n := copy(h.block[h.waiting():], s)
		s = s[n:]
		h.length += uint64(n)
		if h.waiting() == 0 {
			h.state = folded(h.state, h.block)
		}
	}
}

// Sum is the sum of all that was written, 32 bytes.
func (h *Hash) Sum() string {
	var sum [sumLen]byte
	for i, word := range h.closed() {
		sum[4*i] = byte(word >> 24)
		sum[4*i+1] = byte(word >> 16)
		sum[4*i+2] = byte(word >> 8)
		sum[4*i+3] = byte(word)
	}
	return string(sum[:])
}

// Of is the sum of parts, one behind the other.
func Of(parts ...string) string {
	h := New()
	for _, part := range parts {
		h.Write(part)
	}
	return h.Sum()
}

// waiting tells how many bytes wait for the rest of their block.
func (h *Hash) waiting() int { return int(h.length % blockLen) }

// closed is the state behind the end mark and the count. It works on copies, so that h may be written on.
func (h *Hash) closed() [8]uint32 {
	state, last, used := h.state, h.block, h.waiting()
	last[used] = endMark
	clear(last[used+1:]) // an earlier block's bytes may still lie there
	if used+1+countLen > blockLen {
		state = folded(state, last)
		last = [blockLen]byte{}
	}
	bits := h.length * 8
	for i := range countLen {
		last[blockLen-1-i] = byte(bits >> (8 * i))
	}
	return folded(state, last)
}

// folded is the state behind one block more.
func folded(state [8]uint32, block [blockLen]byte) [8]uint32 {
	w := schedule(block)
	a, b, c, d := state[0], state[1], state[2], state[3]
	e, f, g, h := state[4], state[5], state[6], state[7]
	for t := range roundCount {
		one := h + (turned(e, 6) ^ turned(e, 11) ^ turned(e, 25)) + ((e & f) ^ (^e & g)) + rounds[t] + w[t]
		two := (turned(a, 2) ^ turned(a, 13) ^ turned(a, 22)) + ((a & b) ^ (a & c) ^ (b & c))
		a, b, c, d, e, f, g, h = one+two, a, b, c, d+one, e, f, g
	}
	return [8]uint32{
		state[0] + a, state[1] + b, state[2] + c, state[3] + d,
		state[4] + e, state[5] + f, state[6] + g, state[7] + h,
	}
}

// schedule is w0 to w63 of a block.
func schedule(block [blockLen]byte) [roundCount]uint32 {
	var w [roundCount]uint32
	for t := range 16 {
		w[t] = uint32(block[4*t])<<24 | uint32(block[4*t+1])<<16 | uint32(block[4*t+2])<<8 | uint32(block[4*t+3])
	}
	for t := 16; t < roundCount; t++ {
		x, y := w[t-15], w[t-2]
		w[t] = w[t-16] + (turned(x, 7) ^ turned(x, 18) ^ x>>3) + w[t-7] + (turned(y, 17) ^ turned(y, 19) ^ y>>10)
	}
	return w
}

// turned is x turned right by n bits.
func turned(x uint32, n uint) uint32 { return x>>n | x<<(32-n) }
