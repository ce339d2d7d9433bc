package digest

const (
	blockSize = 64 // bytes
	rounds    = 64
)

// roundConstants: the first 32 bits of the fractional parts of the cube roots of the first 64 primes.
var roundConstants = [rounds]uint32{
	0x428a2f98, 0x71374491, 0xb5c0fbcf, 0xe9b5dba5, 0x3956c25b, 0x59f111f1, 0x923f82a4, 0xab1c5ed5,
	0xd807aa98, 0x12835b01, 0x243185be, 0x550c7dc3, 0x72be5d74, 0x80deb1fe, 0x9bdc06a7, 0xc19bf174,
	0xe49b69c1, 0xefbe4786, 0x0fc19dc6, 0x240ca1cc, 0x2de92c6f, 0x4a7484aa, 0x5cb0a9dc, 0x76f988da,
	0x983e5152, 0xa831c66d, 0xb00327c8, 0xbf597fc7, 0xc6e00bf3, 0xd5a79147, 0x06ca6351, 0x14292967,
	0x27b70a85, 0x2e1b2138, 0x4d2c6dfc, 0x53380d13, 0x650a7354, 0x766a0abb, 0x81c2c92e, 0x92722c85,
	0xa2bfe8a1, 0xa81a664b, 0xc24b8b70, 0xc76c51a3, 0xd192e819, 0xd6990624, 0xf40e3585, 0x106aa070,
	0x19a4c116, 0x1e376c08, 0x2748774c, 0x34b0bcb5, 0x391c0cb3, 0x4ed8aa4a, 0x5b9cca4f, 0x682e6ff3,
	0x748f82ee, 0x78a5636f, 0x84c87814, 0x8cc70208, 0x90befffa, 0xa4506ceb, 0xbef9a3f7, 0xc67178f2,
}

// initialState answers the first 32 bits of the fractional parts of the square roots of the first 8 primes.
func initialState() [8]uint32 {
	return [8]uint32{
		0x6a09e667, 0xbb67ae85, 0x3c6ef372, 0xa54ff53a, 0x510e527f, 0x9b05688c, 0x1f83d9ab, 0x5be0cd19,
	}
}

// mixed answers the eight words behind a block, from those ahead of it.
func mixed(words [8]uint32, block [blockSize]byte) [8]uint32 {
	w := schedule(block)
	a, b, c, d := words[0], words[1], words[2], words[3]
	e, f, g, h := words[4], words[5], words[6], words[7]
	for t := range rounds {
		t1 := h + (rotated(e, 6) ^ rotated(e, 11) ^ rotated(e, 25)) + (e&f ^ ^e&g) + roundConstants[t] + w[t]
		t2 := (rotated(a, 2) ^ rotated(a, 13) ^ rotated(a, 22)) + (a&b ^ a&c ^ b&c)
		h, g, f, e, d, c, b, a = g, f, e, d+t1, c, b, a, t1+t2
	}
	for i, word := range [8]uint32{a, b, c, d, e, f, g, h} {
		words[i] += word
	}
	return words
}

// schedule answers a word for each round: those of the block, and those that are made of them.
func schedule(block [blockSize]byte) [rounds]uint32 {
	var w [rounds]uint32
	for t := range 16 {
		w[t] = uint32(block[4*t])<<24 | uint32(block[4*t+1])<<16 | uint32(block[4*t+2])<<8 | uint32(block[4*t+3])
	}
	for t := 16; t < rounds; t++ {
		s1 := rotated(w[t-2], 17) ^ rotated(w[t-2], 19) ^ w[t-2]>>10
		s0 := rotated(w[t-15], 7) ^ rotated(w[t-15], 18) ^ w[t-15]>>3
		w[t] = s1 + w[t-7] + s0 + w[t-16]
	}
	return w
}

// rotated turns a word right by n bits, 1 to 31.
func rotated(x uint32, n uint) uint32 { return x>>n | x<<(32-n) }
