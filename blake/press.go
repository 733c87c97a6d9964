package blake

import (
	"math/bits"

	"obol/words"
)

// wordSize is how many bytes a word has.
const wordSize = 4

// beginning are the first 32 bits of the fractional parts of the square roots
// of 2, 3, 5, 7, 11, 13, 17 and 19.
var beginning = [8]uint32{
	0x6a09e667, 0xbb67ae85, 0x3c6ef372, 0xa54ff53a,
	0x510e527f, 0x9b05688c, 0x1f83d9ab, 0x5be0cd19,
}

// rows tell for each round which words of the block are mixed in, in order.
var rows = [10][16]uint8{
	{0, 1, 2, 3, 4, 5, 6, 7, 8, 9, 10, 11, 12, 13, 14, 15},
	{14, 10, 4, 8, 9, 15, 13, 6, 1, 12, 0, 2, 11, 7, 5, 3},
	{11, 8, 12, 0, 5, 2, 15, 13, 10, 14, 3, 6, 7, 1, 9, 4},
	{7, 9, 3, 1, 13, 12, 11, 14, 2, 6, 5, 10, 4, 0, 15, 8},
	{9, 0, 5, 7, 2, 4, 10, 15, 14, 1, 11, 12, 6, 8, 3, 13},
	{2, 12, 6, 10, 0, 11, 8, 3, 4, 13, 7, 5, 15, 14, 1, 9},
	{12, 5, 1, 15, 14, 13, 4, 10, 0, 7, 6, 3, 9, 2, 8, 11},
	{13, 11, 7, 14, 12, 1, 3, 9, 5, 0, 15, 4, 8, 6, 2, 10},
	{6, 15, 14, 9, 11, 3, 0, 8, 12, 2, 13, 7, 1, 4, 10, 5},
	{10, 2, 8, 4, 7, 6, 1, 5, 15, 11, 9, 14, 3, 12, 13, 0},
}

// places tell which four of the sixteen words each mixing of a round mixes.
var places = [8][4]uint8{
	{0, 4, 8, 12}, {1, 5, 9, 13}, {2, 6, 10, 14}, {3, 7, 11, 15},
	{0, 5, 10, 15}, {1, 6, 11, 12}, {2, 7, 8, 13}, {3, 4, 9, 14},
}

// Press presses a block into words: P5.1.
func Press(h [8]uint32, block [64]byte, count uint64, last bool) [8]uint32 {
	v := sixteen(h, count, last)
	m := blockWords(block)
	for round := range len(rows) {
		v = mixed(v, m, round)
	}
	for i := range h {
		h[i] ^= v[i] ^ v[i+8]
	}
	return h
}

// sixteen are the words that are mixed.
func sixteen(h [8]uint32, count uint64, last bool) [16]uint32 {
	var v [16]uint32
	for i := range h {
		v[i], v[i+8] = h[i], beginning[i]
	}
	v[12] ^= uint32(count)
	v[13] ^= uint32(count >> 32)
	if last {
		v[14] = ^v[14]
	}
	return v
}

func blockWords(block [64]byte) [16]uint32 {
	var m [16]uint32
	for i := range m {
		m[i] = word(block[wordSize*i : wordSize*(i+1)])
	}
	return m
}

// word takes a word's bytes.
func word(b []byte) uint32 { return uint32(words.LowNumber(b)) }

// mixed are the sixteen words one round further.
func mixed(v, m [16]uint32, round int) [16]uint32 {
	for i := range len(places) {
		a, b, c, d := places[i][0], places[i][1], places[i][2], places[i][3]
		x, y := m[rows[round][2*i]], m[rows[round][2*i+1]]
		v[a], v[b], v[c], v[d] = half(v[a], v[b], v[c], v[d], x, 16, 12)
		v[a], v[b], v[c], v[d] = half(v[a], v[b], v[c], v[d], y, 8, 7)
	}
	return v
}

// half is one of the two alike halves of a mixing: with one word of the block,
// d and b being rolled so far.
func half(a, b, c, d, x uint32, rollD, rollB int) (uint32, uint32, uint32, uint32) {
	a += b + x
	d = bits.RotateLeft32(d^a, -rollD)
	c += d
	b = bits.RotateLeft32(b^c, -rollB)
	return a, b, c, d
}
