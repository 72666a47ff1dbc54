package blake

import "math/bits"

const (
	wordBytes  = 8
	blockBytes = 128
	rounds     = 12
	// noKeyNoTree is how the first word is set for a digest by itself, without a key.
	noKeyNoTree = 0x01010000
)

// state is the words h0 to h7.
type state [8]uint64

// words is a block, word by word.
type words [blockBytes / wordBytes]uint64

var firstWords = [8]uint64{
	0x6a09e667f3bcc908, 0xbb67ae8584caa73b, 0x3c6ef372fe94f82b, 0xa54ff53a5f1d36f1,
	0x510e527fade682d1, 0x9b05688c2b3e6c1f, 0x1f83d9abfb41bd6b, 0x5be0cd19137e2179,
}

// orders: in which order a round takes a block's words.
var orders = [10][16]uint8{
	{0, 1, 2, 3, 4, 5, 6, 7, 8, 9, 10, 11, 12, 13, 14, 15},
	{14, 10, 4, 8, 9, 15, 13, 6, 1, 12, 0, 2, 11, 7, 5, 3},
	{11, 8, 12, 0, 5, 2, 15, 13, 10, 14, 3, 6, 7, 1, 9, 4},
	{7, 9, 3, 1, 13, 12, 11, 14, 2, 6, 5, 10, 4, 0, 15, 8},
	{9, 0, 5, 7, 2, 4, 10, 15, 14, 1, 11, 12, 6, 8, 3, 13},
	{2, 12, 6, 10, 0, 11, 8, 3, 4, 13, 7, 5, 15, 14, 1, 9},
	{12, 5, 1, 15, 14, 13, 4, 10, 0, 7, 6, 3, 9, 2, 8, 11},
	{13, 11, 7, 14, 12, 1, 3, 9, 5, 0, 15, 4, 8, 6, 2, 10},
	{6, 15, 14, 9, 11, 3, 0, 8, 12, 2, 13, 7, 1, 4, 10, 5},
	{10, 2, 8, 4, 7, 6, 1, 5, 15, 11, 9, 14, 3, 12, 13, 0},
}

// begin: the state ahead of all blocks.
func begin(person string, length int) state {
	var h state
	for i := range len(h) {
		h[i] = firstWords[i]
	}
	h[0] ^= noKeyNoTree ^ uint64(length)
	for i := range len(person) {
		h[6+i/wordBytes] ^= uint64(person[i]) << (i % wordBytes * 8)
	}
	return h
}

// wordsOf: a block's words.
func wordsOf(block [blockBytes]byte) words {
	var m words
	for i, b := range block {
		m[i/wordBytes] |= uint64(b) << (i % wordBytes * 8)
	}
	return m
}

// compress: the state with a block taken in, up to whose end the message has so many bytes.
func compress(h state, m words, taken uint64, last bool) state {
	var v [16]uint64
	for i := range len(h) {
		v[i], v[i+8] = h[i], firstWords[i]
	}
	v[12] ^= taken
	if last {
		v[14] = ^v[14]
	}
	for r := range rounds {
		p := inOrder(m, r)
		v[0], v[4], v[8], v[12] = mix(v[0], v[4], v[8], v[12], p[0], p[1])
		v[1], v[5], v[9], v[13] = mix(v[1], v[5], v[9], v[13], p[2], p[3])
		v[2], v[6], v[10], v[14] = mix(v[2], v[6], v[10], v[14], p[4], p[5])
		v[3], v[7], v[11], v[15] = mix(v[3], v[7], v[11], v[15], p[6], p[7])
		v[0], v[5], v[10], v[15] = mix(v[0], v[5], v[10], v[15], p[8], p[9])
		v[1], v[6], v[11], v[12] = mix(v[1], v[6], v[11], v[12], p[10], p[11])
		v[2], v[7], v[8], v[13] = mix(v[2], v[7], v[8], v[13], p[12], p[13])
		v[3], v[4], v[9], v[14] = mix(v[3], v[4], v[9], v[14], p[14], p[15])
	}
	for i := range len(h) {
		h[i] ^= v[i] ^ v[i+8]
	}
	return h
}

// inOrder: a block's words, as a round takes them.
func inOrder(m words, round int) words {
	var p words
	for i := range len(p) {
		p[i] = m[orders[round%len(orders)][i]]
	}
	return p
}

// mix: four words, stirred with two of the block's.
func mix(a, b, c, d, x, y uint64) (uint64, uint64, uint64, uint64) {
	a += b + x
	d = turnRight(d^a, 32)
	c += d
	b = turnRight(b^c, 24)
	a += b + y
	d = turnRight(d^a, 16)
	c += d
	b = turnRight(b^c, 63)
	return a, b, c, d
}

func turnRight(w uint64, n int) uint64 { return bits.RotateLeft64(w, -n) }
