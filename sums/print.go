package sums

import (
	"math/bits"
	"strings"
)

// blockSize is the number of bytes that are mixed in at a time.
const blockSize = 64

// roundConst holds the first 32 bits behind the point of the cube roots of the
// first 64 primes.
var roundConst = [64]uint32{
	0x428a2f98, 0x71374491, 0xb5c0fbcf, 0xe9b5dba5, 0x3956c25b, 0x59f111f1, 0x923f82a4, 0xab1c5ed5,
	0xd807aa98, 0x12835b01, 0x243185be, 0x550c7dc3, 0x72be5d74, 0x80deb1fe, 0x9bdc06a7, 0xc19bf174,
	0xe49b69c1, 0xefbe4786, 0x0fc19dc6, 0x240ca1cc, 0x2de92c6f, 0x4a7484aa, 0x5cb0a9dc, 0x76f988da,
	0x983e5152, 0xa831c66d, 0xb00327c8, 0xbf597fc7, 0xc6e00bf3, 0xd5a79147, 0x06ca6351, 0x14292967,
	0x27b70a85, 0x2e1b2138, 0x4d2c6dfc, 0x53380d13, 0x650a7354, 0x766a0abb, 0x81c2c92e, 0x92722c85,
	0xa2bfe8a1, 0xa81a664b, 0xc24b8b70, 0xc76c51a3, 0xd192e819, 0xd6990624, 0xf40e3585, 0x106aa070,
	0x19a4c116, 0x1e376c08, 0x2748774c, 0x34b0bcb5, 0x391c0cb3, 0x4ed8aa4a, 0x5b9cca4f, 0x682e6ff3,
	0x748f82ee, 0x78a5636f, 0x84c87814, 0x8cc70208, 0x90befffa, 0xa4506ceb, 0xbef9a3f7, 0xc67178f2,
}

// Print answers the fingerprint of s: SHA-256, 32 bytes.
func Print(s string) string {
	// Whole blocks are read where they stand: a long text isn't copied to be
	// padded.
	whole := len(s) - len(s)%blockSize
	state := mixAll(firstState(), s[:whole])
	state = mixAll(state, s[whole:]+padding(len(s)))
	return stateBytes(state)
}

// firstState answers the first 32 bits behind the point of the square roots of
// the first eight primes.
func firstState() [8]uint32 {
	return [8]uint32{
		0x6a09e667, 0xbb67ae85, 0x3c6ef372, 0xa54ff53a,
		0x510e527f, 0x9b05688c, 0x1f83d9ab, 0x5be0cd19,
	}
}

// padding answers what follows a text of n bytes, to make its length a multiple
// of a block's.
func padding(n int) string {
	zeros := (2*blockSize - 9 - n%blockSize) % blockSize
	length := uint64(n) * 8
	var tail [8]byte
	for i := range tail {
		tail[i] = byte(length >> (56 - 8*i))
	}
	return "\x80" + strings.Repeat("\x00", zeros) + string(tail[:])
}

// mixAll mixes whole blocks into the state, in turn.
func mixAll(state [8]uint32, blocks string) [8]uint32 {
	for len(blocks) >= blockSize {
		state = mix(state, blocks[:blockSize])
		blocks = blocks[blockSize:]
	}
	return state
}

// mix mixes one block into the state.
func mix(state [8]uint32, block string) [8]uint32 {
	words := spread(block)
	a, b, c, d := state[0], state[1], state[2], state[3]
	e, f, g, h := state[4], state[5], state[6], state[7]
	for t, word := range words {
		turnedE := bits.RotateLeft32(e, -6) ^ bits.RotateLeft32(e, -11) ^ bits.RotateLeft32(e, -25)
		turnedA := bits.RotateLeft32(a, -2) ^ bits.RotateLeft32(a, -13) ^ bits.RotateLeft32(a, -22)
		chosen := e&f ^ ^e&g
		most := a&b ^ a&c ^ b&c
		first := h + turnedE + chosen + roundConst[t] + word
		second := turnedA + most
		h, g, f, e = g, f, e, d+first
		d, c, b, a = c, b, a, first+second
	}
	return [8]uint32{
		state[0] + a, state[1] + b, state[2] + c, state[3] + d,
		state[4] + e, state[5] + f, state[6] + g, state[7] + h,
	}
}

// spread answers the 64 words of a block: its own 16, and those made of them.
func spread(block string) [64]uint32 {
	var words [64]uint32
	for t := range 16 {
		four := block[4*t : 4*t+4]
		words[t] = uint32(four[0])<<24 | uint32(four[1])<<16 | uint32(four[2])<<8 | uint32(four[3])
	}
	for t := 16; t < 64; t++ {
		x, y := words[t-15], words[t-2]
		low := bits.RotateLeft32(x, -7) ^ bits.RotateLeft32(x, -18) ^ x>>3
		high := bits.RotateLeft32(y, -17) ^ bits.RotateLeft32(y, -19) ^ y>>10
		words[t] = words[t-16] + low + words[t-7] + high
	}
	return words
}

// stateBytes answers the state's numbers, the highest byte of each first.
func stateBytes(state [8]uint32) string {
	var out [32]byte
	for i, n := range state {
		out[4*i] = byte(n >> 24)
		out[4*i+1] = byte(n >> 16)
		out[4*i+2] = byte(n >> 8)
		out[4*i+3] = byte(n)
	}
	return string(out[:])
}
