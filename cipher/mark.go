package cipher

import (
	"math/bits"

	"obol/words"
)

// pieceSize is how many bytes are added to a mark's sum at once.
const pieceSize = 16

// These are the bits of r that may stand, in its lower and its higher half.
const (
	lowMask  = 0x0ffffffc0fffffff
	highMask = 0x0ffffffc0ffffffc
)

// number is one of at most 192 bits, the lowest 64 first.
type number [3]uint64

// summing answers two functions that work on one sum: take takes more bytes,
// and mark tells the mark of all that were taken. They carry on the sum, and
// the bytes that fill no piece yet. The key must have 32 bytes.
func summing(key []byte) (take func(b []byte), mark func() []byte) {
	r := [2]uint64{words.LowNumber(key[:8]) & lowMask, words.LowNumber(key[8:16]) & highMask}
	s := number{words.LowNumber(key[16:24]), words.LowNumber(key[24:32])}
	var sum number
	piece := make([]byte, 0, pieceSize)
	take = func(b []byte) {
		for _, x := range b {
			piece = append(piece, x)
			if len(piece) == pieceSize {
				sum = stepped(sum, piece, r)
				piece = piece[:0]
			}
		}
	}
	mark = func() []byte {
		all := sum
		if len(piece) > 0 {
			all = stepped(sum, piece, r)
		}
		told := plus(least(all), s)
		return lowBytes(told[0], told[1])
	}
	return take, mark
}

// pieceNumber is a piece's number with a 1 behind its highest byte, which
// tells pieces apart that differ in bytes 00 at their end.
func pieceNumber(piece []byte) number {
	var b [pieceSize + 1]byte
	b[copy(b[:], piece)] = 1
	return number{words.LowNumber(b[:8]), words.LowNumber(b[8:16]), uint64(b[16])}
}

// stepped is the sum with a piece's number added, times r. It is kept below 5
// times 2^128 and not below 2^130 - 5, as that is less to do for each piece.
func stepped(sum number, piece []byte, r [2]uint64) number {
	return folded(times(plus(sum, pieceNumber(piece)), r))
}

func plus(x, y number) number {
	var sum number
	carry := uint64(0)
	for i := range sum {
		sum[i], carry = bits.Add64(x[i], y[i], carry)
	}
	return sum
}

// times is the whole product. Nothing is over behind x's last word, which is
// below 8, as each half of r is below 2^60.
func times(x number, r [2]uint64) [4]uint64 {
	var out [4]uint64
	for j := range r {
		over, carry := uint64(0), uint64(0)
		for i := range x {
			high, low := bits.Mul64(x[i], r[j])
			low, carry = bits.Add64(low, over, 0)
			over = high + carry
			out[i+j], carry = bits.Add64(out[i+j], low, 0)
			over += carry
		}
	}
	return out
}

// folded lays what stands from bit 130 on upon what stands below, 5 times, as
// 2^130 is 5: 4 times by taking it from bit 128 on, and once more.
func folded(x [4]uint64) number {
	low := number{x[0], x[1], x[2] & 3}
	fourfold := number{x[2] &^ 3, x[3]}
	once := number{x[2]>>2 | x[3]<<62, x[3] >> 2}
	return plus(low, plus(fourfold, once))
}

// least is the sum modulo 2^130 - 5, in its lowest 128 bits: those of the sum
// and 5 where that reaches 2^130, which is to be taken off then.
func least(sum number) number {
	if above := plus(sum, number{5}); above[2] > 3 {
		return above
	}
	return sum
}

// lowBytes are the bytes of two numbers, the lowest first.
func lowBytes(x, y uint64) []byte {
	return words.LowBytes(uint32(x), uint32(x>>32), uint32(y), uint32(y>>32))
}
