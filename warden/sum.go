package warden

import "math/bits"

const (
	blockSize = 64
	lengthAt  = blockSize - 8 // where the number of bits stands in the last block
)

// startWords is H at first: of the square roots of the first 8 primes.
var startWords = [8]uint32{
	0x6a09e667, 0xbb67ae85, 0x3c6ef372, 0xa54ff53a, 0x510e527f, 0x9b05688c, 0x1f83d9ab, 0x5be0cd19,
}

// rootWords is K: of the cube roots of the first 64 primes.
var rootWords = [64]uint32{
	0x428a2f98, 0x71374491, 0xb5c0fbcf, 0xe9b5dba5, 0x3956c25b, 0x59f111f1, 0x923f82a4, 0xab1c5ed5,
	0xd807aa98, 0x12835b01, 0x243185be, 0x550c7dc3, 0x72be5d74, 0x80deb1fe, 0x9bdc06a7, 0xc19bf174,
	0xe49b69c1, 0xefbe4786, 0x0fc19dc6, 0x240ca1cc, 0x2de92c6f, 0x4a7484aa, 0x5cb0a9dc, 0x76f988da,
	0x983e5152, 0xa831c66d, 0xb00327c8, 0xbf597fc7, 0xc6e00bf3, 0xd5a79147, 0x06ca6351, 0x14292967,
	0x27b70a85, 0x2e1b2138, 0x4d2c6dfc, 0x53380d13, 0x650a7354, 0x766a0abb, 0x81c2c92e, 0x92722c85,
	0xa2bfe8a1, 0xa81a664b, 0xc24b8b70, 0xc76c51a3, 0xd192e819, 0xd6990624, 0xf40e3585, 0x106aa070,
	0x19a4c116, 0x1e376c08, 0x2748774c, 0x34b0bcb5, 0x391c0cb3, 0x4ed8aa4a, 0x5b9cca4f, 0x682e6ff3,
	0x748f82ee, 0x78a5636f, 0x84c87814, 0x8cc70208, 0x90befffa, 0xa4506ceb, 0xbef9a3f7, 0xc67178f2,
}

// sumBehind ends a sum whose first bytes (done, whole blocks) are in h already:
// so a seal never has to lay its key and its message side by side.
func sumBehind(h [8]uint32, done uint64, bytes string) [32]byte {
	length := eightBytes((done + uint64(len(bytes))) * 8)
	for len(bytes) >= blockSize {
		h = turnBlock(h, blockOf(bytes))
		bytes = bytes[blockSize:]
	}
	last := blockOf(bytes)
	last[len(bytes)] = 0x80
	if len(bytes) >= lengthAt { // no room for the length behind the 80
		h = turnBlock(h, last)
		last = [blockSize]byte{}
	}
	copy(last[lengthAt:], length[:])
	return bytesOf(turnBlock(h, last))
}

// blockOf takes as many bytes as a block holds; what is short of it are bytes 0.
func blockOf(bytes string) [blockSize]byte {
	var block [blockSize]byte
	copy(block[:], bytes)
	return block
}

func turnBlock(h [8]uint32, block [blockSize]byte) [8]uint32 {
	w := spread(block)
	s := h
	for t := range 64 {
		s = step(s, rootWords[t]+w[t])
	}
	for i := range 8 {
		h[i] += s[i]
	}
	return h
}

// spread makes W of a block.
func spread(block [blockSize]byte) [64]uint32 {
	var w [64]uint32
	for t := range 16 {
		w[t] = word(block[4*t], block[4*t+1], block[4*t+2], block[4*t+3])
	}
	for t := 16; t < 64; t++ {
		x, y := w[t-15], w[t-2]
		s0 := right(x, 7) ^ right(x, 18) ^ x>>3
		s1 := right(y, 17) ^ right(y, 19) ^ y>>10
		w[t] = s1 + w[t-7] + s0 + w[t-16]
	}
	return w
}

// step turns a to h once; kw is Kt + Wt.
func step(s [8]uint32, kw uint32) [8]uint32 {
	a, b, c, d, e, f, g, h := s[0], s[1], s[2], s[3], s[4], s[5], s[6], s[7]
	t1 := h + (right(e, 6) ^ right(e, 11) ^ right(e, 25)) + (e&f ^ ^e&g) + kw
	t2 := (right(a, 2) ^ right(a, 13) ^ right(a, 22)) + (a&b ^ a&c ^ b&c)
	return [8]uint32{t1 + t2, a, b, c, d + t1, e, f, g}
}

func right(x uint32, by int) uint32 {
	return bits.RotateLeft32(x, -by)
}

func word(b0, b1, b2, b3 byte) uint32 {
	return uint32(b0)<<24 | uint32(b1)<<16 | uint32(b2)<<8 | uint32(b3)
}

func bytesOf(h [8]uint32) [32]byte {
	var sum [32]byte
	for i, x := range h {
		four := fourBytes(x)
		copy(sum[4*i:], four[:])
	}
	return sum
}

func fourBytes(x uint32) [4]byte {
	return [4]byte{byte(x >> 24), byte(x >> 16), byte(x >> 8), byte(x)}
}

func eightBytes(number uint64) [8]byte {
	var b [8]byte
	for i := range 8 {
		b[i] = byte(number >> (56 - 8*i))
	}
	return b
}
