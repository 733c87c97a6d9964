package cipher

import (
	"math/bits"

	"obol/words"
)

// wordSize is how many bytes a word has.
const wordSize = 4

// rounds is how often all quarters are gone through.
const rounds = 10

// opening are the words that every block begins with: "expand 32-byte k".
var opening = [4]uint32{0x61707865, 0x3320646e, 0x79622d32, 0x6b206574}

// places tell which four of the sixteen words each quarter takes.
var places = [8][4]uint8{
	{0, 4, 8, 12}, {1, 5, 9, 13}, {2, 6, 10, 14}, {3, 7, 11, 15},
	{0, 5, 10, 15}, {1, 6, 11, 12}, {2, 7, 8, 13}, {3, 4, 9, 14},
}

// stream answers a function that tells the stream's next byte. It carries on
// the count and what is left of its block; the key and the nonce must stay as
// they are meanwhile.
func stream(key, nonce []byte, count uint32) func() byte {
	var left []byte
	return func() byte {
		if len(left) == 0 {
			left = block(key, nonce, count)
			count++ // modulo 2^32, as it wraps round
		}
		next := left[0]
		left = left[1:]
		return next
	}
}

// block takes a key and a nonce that are as long as they must be.
func block(key, nonce []byte, count uint32) []byte {
	first := sixteen(key, nonce, count)
	v := first
	for range rounds {
		v = mixed(v)
	}
	for i := range v {
		v[i] += first[i]
	}
	return words.LowBytes(v[:]...)
}

// sixteen are the words that are mixed.
func sixteen(key, nonce []byte, count uint32) [16]uint32 {
	v := [16]uint32{12: count}
	for i := range len(opening) {
		v[i] = opening[i]
	}
	for i := range keySize / wordSize {
		v[4+i] = word(key, i)
	}
	for i := range nonceSize / wordSize {
		v[13+i] = word(nonce, i)
	}
	return v
}

// word is the word of b at a place.
func word(b []byte, at int) uint32 {
	return uint32(words.LowNumber(b[wordSize*at : wordSize*(at+1)]))
}

// mixed are the sixteen words with all quarters gone through once.
func mixed(v [16]uint32) [16]uint32 {
	for i := range len(places) {
		a, b, c, d := places[i][0], places[i][1], places[i][2], places[i][3]
		v[a], v[b], v[c], v[d] = half(v[a], v[b], v[c], v[d], 16, 12)
		v[a], v[b], v[c], v[d] = half(v[a], v[b], v[c], v[d], 8, 7)
	}
	return v
}

// half is one of the two alike halves of a quarter, d and b being rolled so far.
func half(a, b, c, d uint32, rollD, rollB int) (uint32, uint32, uint32, uint32) {
	a += b
	d = bits.RotateLeft32(d^a, rollD)
	c += d
	b = bits.RotateLeft32(b^c, rollB)
	return a, b, c, d
}
