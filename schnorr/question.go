package schnorr

import (
	"obol/api"
	"obol/blake"
	"obol/edwards"
)

const person = "schnorr"

// question is the question of the points A and K, and of a message. It takes
// points only, which have bytes, and the hash refuses neither this person nor
// S: so their errors are not asked.
func question(a, k api.Ed, msg []byte) uint64 {
	first, _ := edwards.Write(a)
	second, _ := edwards.Write(k)
	q, _ := blake.Number(person, laid(first, second, msg), api.S)
	return q
}

// laid are the bytes of all parts, one behind the other.
func laid(parts ...[]byte) []byte {
	var b []byte
	for _, part := range parts {
		b = append(b, part...)
	}
	return b
}
