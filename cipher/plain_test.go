package cipher_test

import (
	"encoding/binary"
	"math/big"
	"slices"
)

// This is the chapter to the letter: its quarters one by one, its sums by
// math/big, its bytes laid one behind the other. It calls no layer.

func rolledLeft(x uint32, by int) uint32 { return x<<by | x>>(32-by) }

func plainQuarter(v *[16]uint32, a, b, c, d int) {
	v[a] = v[a] + v[b]
	v[d] = rolledLeft(v[d]^v[a], 16)
	v[c] = v[c] + v[d]
	v[b] = rolledLeft(v[b]^v[c], 12)
	v[a] = v[a] + v[b]
	v[d] = rolledLeft(v[d]^v[a], 8)
	v[c] = v[c] + v[d]
	v[b] = rolledLeft(v[b]^v[c], 7)
}

func plainBlock(key, nonce []byte, count uint32) []byte {
	first := [16]uint32{0x61707865, 0x3320646e, 0x79622d32, 0x6b206574}
	for i := range 8 {
		first[4+i] = binary.LittleEndian.Uint32(key[4*i:])
	}
	first[12] = count
	for i := range 3 {
		first[13+i] = binary.LittleEndian.Uint32(nonce[4*i:])
	}
	v := first
	for range 10 {
		plainQuarter(&v, 0, 4, 8, 12)
		plainQuarter(&v, 1, 5, 9, 13)
		plainQuarter(&v, 2, 6, 10, 14)
		plainQuarter(&v, 3, 7, 11, 15)
		plainQuarter(&v, 0, 5, 10, 15)
		plainQuarter(&v, 1, 6, 11, 12)
		plainQuarter(&v, 2, 7, 8, 13)
		plainQuarter(&v, 3, 4, 9, 14)
	}
	var b []byte
	for i := range v {
		b = binary.LittleEndian.AppendUint32(b, v[i]+first[i])
	}
	return b
}

// lowFirst is the number of bytes, the lowest first.
func lowFirst(b []byte) *big.Int {
	turned := slices.Clone(b)
	slices.Reverse(turned)
	return new(big.Int).SetBytes(turned)
}

// power2 is 2^n less some.
func power2(n uint, less int64) *big.Int {
	x := new(big.Int).Lsh(big.NewInt(1), n)
	return x.Sub(x, big.NewInt(less))
}

func plainMark(key, b []byte) []byte {
	mask, _ := new(big.Int).SetString("0ffffffc0ffffffc0ffffffc0fffffff", 16)
	r := lowFirst(key[:16])
	r.And(r, mask)
	sum := new(big.Int)
	for piece := range slices.Chunk(b, 16) {
		sum.Add(sum, lowFirst(append(slices.Clone(piece), 1)))
		sum.Mul(sum, r).Mod(sum, power2(130, 5))
	}
	sum.Add(sum, lowFirst(key[16:])).Mod(sum, power2(128, 0))
	return lowBytes16(sum)
}

// lowBytes16 are 16 bytes of a number below 2^128, the lowest first.
func lowBytes16(x *big.Int) []byte {
	b := x.FillBytes(make([]byte, 16))
	slices.Reverse(b)
	return b
}

func plainSeal(key, nonce, data, text []byte) []byte {
	var stream []byte
	for count := uint32(1); len(stream) < len(text); count++ {
		stream = append(stream, plainBlock(key, nonce, count)...)
	}
	sealed := make([]byte, len(text))
	for i := range text {
		sealed[i] = text[i] ^ stream[i]
	}
	var all []byte
	for _, b := range [][]byte{data, sealed} {
		all = append(all, b...)
		for len(all)%16 != 0 {
			all = append(all, 0)
		}
	}
	all = binary.LittleEndian.AppendUint64(all, uint64(len(data)))
	all = binary.LittleEndian.AppendUint64(all, uint64(len(text)))
	return append(sealed, plainMark(plainBlock(key, nonce, 0)[:32], all)...)
}
