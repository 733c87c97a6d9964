package blake_test

import (
	"encoding/binary"
	"math/big"
	"strconv"
	"strings"
)

// This is the chapter to the letter: its table as a text, its roots by
// math/big, its mixings one by one. It calls no layer.

const table = `
0 1 2 3 4 5 6 7 8 9 10 11 12 13 14 15
14 10 4 8 9 15 13 6 1 12 0 2 11 7 5 3
11 8 12 0 5 2 15 13 10 14 3 6 7 1 9 4
7 9 3 1 13 12 11 14 2 6 5 10 4 0 15 8
9 0 5 7 2 4 10 15 14 1 11 12 6 8 3 13
2 12 6 10 0 11 8 3 4 13 7 5 15 14 1 9
12 5 1 15 14 13 4 10 0 7 6 3 9 2 8 11
13 11 7 14 12 1 3 9 5 0 15 4 8 6 2 10
6 15 14 9 11 3 0 8 12 2 13 7 1 4 10 5
10 2 8 4 7 6 1 5 15 11 9 14 3 12 13 0
`

func plainRows() [][]int {
	var rows [][]int
	for line := range strings.Lines(strings.TrimSpace(table)) {
		var row []int
		for _, field := range strings.Fields(line) {
			n, err := strconv.Atoi(field)
			if err != nil {
				panic(err)
			}
			row = append(row, n)
		}
		rows = append(rows, row)
	}
	return rows
}

// plainBeginning are the lowest 32 bits of the whole root of each prime times
// 2^64: the whole part of the root falls off above them.
func plainBeginning() [8]uint32 {
	var h [8]uint32
	for i, prime := range []int64{2, 3, 5, 7, 11, 13, 17, 19} {
		n := big.NewInt(prime)
		n.Lsh(n, 64).Sqrt(n)
		h[i] = uint32(n.Uint64())
	}
	return h
}

func rolled(x uint32, by int) uint32 { return x>>by | x<<(32-by) }

func plainMixing(v *[16]uint32, a, b, c, d int, x, y uint32) {
	v[a] = v[a] + v[b] + x
	v[d] = rolled(v[d]^v[a], 16)
	v[c] = v[c] + v[d]
	v[b] = rolled(v[b]^v[c], 12)
	v[a] = v[a] + v[b] + y
	v[d] = rolled(v[d]^v[a], 8)
	v[c] = v[c] + v[d]
	v[b] = rolled(v[b]^v[c], 7)
}

func plainPress(h [8]uint32, block [64]byte, count uint64, last bool) [8]uint32 {
	var v, m [16]uint32
	for i := range m {
		m[i] = binary.LittleEndian.Uint32(block[4*i:])
	}
	begin := plainBeginning()
	copy(v[:8], h[:])
	copy(v[8:], begin[:])
	v[12] ^= uint32(count % (1 << 32))
	v[13] ^= uint32(count / (1 << 32))
	if last {
		v[14] ^= 0xffffffff
	}
	for _, s := range plainRows() {
		plainMixing(&v, 0, 4, 8, 12, m[s[0]], m[s[1]])
		plainMixing(&v, 1, 5, 9, 13, m[s[2]], m[s[3]])
		plainMixing(&v, 2, 6, 10, 14, m[s[4]], m[s[5]])
		plainMixing(&v, 3, 7, 11, 15, m[s[6]], m[s[7]])
		plainMixing(&v, 0, 5, 10, 15, m[s[8]], m[s[9]])
		plainMixing(&v, 1, 6, 11, 12, m[s[10]], m[s[11]])
		plainMixing(&v, 2, 7, 8, 13, m[s[12]], m[s[13]])
		plainMixing(&v, 3, 4, 9, 14, m[s[14]], m[s[15]])
	}
	for i := range h {
		h[i] ^= v[i] ^ v[i+8]
	}
	return h
}

// plainDigest takes a person of at most 8 bytes.
func plainDigest(person string, b []byte) []byte {
	name := []byte(person + strings.Repeat("\x00", 8-len(person)))
	h := plainBeginning()
	h[0] ^= 0x01010020
	h[6] ^= binary.LittleEndian.Uint32(name[:4])
	h[7] ^= binary.LittleEndian.Uint32(name[4:])
	blocks := max(1, (len(b)+63)/64)
	for k := range blocks {
		var block [64]byte
		end := min(len(b), 64*(k+1))
		copy(block[:], b[64*k:end])
		h = plainPress(h, block, uint64(end), k == blocks-1)
	}
	var digest []byte
	for _, w := range h {
		digest = binary.LittleEndian.AppendUint32(digest, w)
	}
	return digest
}
