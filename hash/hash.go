// Package hash computes SHA-256 hashes (FIPS 180-4) and HMAC tags (RFC 2104).
package hash

const (
	blockSize = 64
	lengthAt  = 56   // where the length begins in the last block
	endMark   = 0x80 // what follows the input, ahead of the zero bytes
	innerPad  = 0x36
	outerPad  = 0x5C
)

// Sum is the SHA-256 hash of b.
func Sum(b []byte) [32]byte {
	return finish(initial(), 0, b)
}

// Mac is the HMAC tag of b by key.
func Mac(key, b []byte) [32]byte {
	k := keyBlock(key)
	inner := finish(absorb(initial(), masked(k, innerPad)), blockSize, b)
	return finish(absorb(initial(), masked(k, outerPad)), blockSize, inner[:])
}

// Same reports whether all bytes of a and b are equal. It always looks at all
// of them, so that its running time does not show how much of a tag is right.
func Same(a, b [32]byte) bool {
	var unlike byte
	for i := range a {
		unlike |= a[i] ^ b[i]
	}
	return unlike == 0
}

// keyBlock is the key, or the hash of one that does not fit, with zero bytes
// behind it up to a whole block.
func keyBlock(key []byte) [blockSize]byte {
	var block [blockSize]byte
	if len(key) > blockSize {
		short := Sum(key)
		copy(block[:], short[:])
	} else {
		copy(block[:], key)
	}
	return block
}

// masked is the block with each byte xored with mask.
func masked(block [blockSize]byte, mask byte) [blockSize]byte {
	for i := range block {
		block[i] ^= mask
	}
	return block
}

// initial is the state ahead of the first block.
func initial() [8]uint32 {
	return [8]uint32{
		0x6a09e667, 0xbb67ae85, 0x3c6ef372, 0xa54ff53a,
		0x510e527f, 0x9b05688c, 0x1f83d9ab, 0x5be0cd19,
	}
}

// finish absorbs b and the padding into a state that has absorbed the whole
// blocks of ahead bytes already, and is the hash of all of it. Going on from a
// state spares Mac a copy of its input behind the key.
func finish(state [8]uint32, ahead uint64, b []byte) [32]byte {
	bits := (ahead + uint64(len(b))) * 8
	var block [blockSize]byte
	for len(b) >= blockSize {
		copy(block[:], b)
		state = absorb(state, block)
		b = b[blockSize:]
	}
	block = [blockSize]byte{}
	n := copy(block[:], b)
	block[n] = endMark
	if n >= lengthAt {
		// The mark leaves no room for the length: it goes into one more block.
		state = absorb(state, block)
		block = [blockSize]byte{}
	}
	for i := range 8 {
		block[lengthAt+i] = byte(bits >> (56 - 8*i))
	}
	return bytesOf(absorb(state, block))
}

// bytesOf is the state's words in big-endian byte order.
func bytesOf(state [8]uint32) [32]byte {
	var out [32]byte
	for i, word := range state {
		out[4*i] = byte(word >> 24)
		out[4*i+1] = byte(word >> 16)
		out[4*i+2] = byte(word >> 8)
		out[4*i+3] = byte(word)
	}
	return out
}

// absorb is the state behind one more block.
func absorb(state [8]uint32, block [blockSize]byte) [8]uint32 {
	table := roundConstants()
	words := schedule(block)
	a, b, c, d := state[0], state[1], state[2], state[3]
	e, f, g, h := state[4], state[5], state[6], state[7]
	for t := range words {
		first := h + (rotr(e, 6) ^ rotr(e, 11) ^ rotr(e, 25)) + ((e & f) ^ (^e & g)) + table[t] + words[t]
		second := (rotr(a, 2) ^ rotr(a, 13) ^ rotr(a, 22)) + ((a & b) ^ (a & c) ^ (b & c))
		h, g, f, e = g, f, e, d+first
		d, c, b, a = c, b, a, first+second
	}
	return [8]uint32{
		state[0] + a, state[1] + b, state[2] + c, state[3] + d,
		state[4] + e, state[5] + f, state[6] + g, state[7] + h,
	}
}

// schedule is the words of all rounds: the block's own 16, and those that
// follow from them.
func schedule(block [blockSize]byte) [64]uint32 {
	var words [64]uint32
	for t := range 16 {
		words[t] = uint32(block[4*t])<<24 | uint32(block[4*t+1])<<16 |
			uint32(block[4*t+2])<<8 | uint32(block[4*t+3])
	}
	for t := 16; t < 64; t++ {
		x, y := words[t-2], words[t-15]
		words[t] = (rotr(x, 17) ^ rotr(x, 19) ^ x>>10) + words[t-7] +
			(rotr(y, 7) ^ rotr(y, 18) ^ y>>3) + words[t-16]
	}
	return words
}

// rotr is x rotated to the right by n bits, for n from 1 to 31.
func rotr(x uint32, n uint) uint32 {
	return x>>n | x<<(32-n)
}

// roundConstants is the table K.
func roundConstants() [64]uint32 {
	return [64]uint32{
		0x428a2f98, 0x71374491, 0xb5c0fbcf, 0xe9b5dba5, 0x3956c25b, 0x59f111f1, 0x923f82a4, 0xab1c5ed5,
		0xd807aa98, 0x12835b01, 0x243185be, 0x550c7dc3, 0x72be5d74, 0x80deb1fe, 0x9bdc06a7, 0xc19bf174,
		0xe49b69c1, 0xefbe4786, 0x0fc19dc6, 0x240ca1cc, 0x2de92c6f, 0x4a7484aa, 0x5cb0a9dc, 0x76f988da,
		0x983e5152, 0xa831c66d, 0xb00327c8, 0xbf597fc7, 0xc6e00bf3, 0xd5a79147, 0x06ca6351, 0x14292967,
		0x27b70a85, 0x2e1b2138, 0x4d2c6dfc, 0x53380d13, 0x650a7354, 0x766a0abb, 0x81c2c92e, 0x92722c85,
		0xa2bfe8a1, 0xa81a664b, 0xc24b8b70, 0xc76c51a3, 0xd192e819, 0xd6990624, 0xf40e3585, 0x106aa070,
		0x19a4c116, 0x1e376c08, 0x2748774c, 0x34b0bcb5, 0x391c0cb3, 0x4ed8aa4a, 0x5b9cca4f, 0x682e6ff3,
		0x748f82ee, 0x78a5636f, 0x84c87814, 0x8cc70208, 0x90befffa, 0xa4506ceb, 0xbef9a3f7, 0xc67178f2,
	}
}
