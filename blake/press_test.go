package blake_test

import (
	"math"
	"math/rand"
	"testing"

	"obol/blake"
)

// block64 are the first 64 bytes of message.
func block64() [64]byte { return [64]byte(message(64)) }

// counts are of the lower word alone, of the higher one, and of both.
func counts() []uint64 {
	return []uint64{0, 1, 63, 64, 65, math.MaxUint32, 1 << 32, 1<<32 + 1, 0x123456789abcdef0, 1 << 63, math.MaxUint64}
}

// P5.1 in numbers that no code of the project told.
func TestPressInNumbers(t *testing.T) {
	none, ones := [8]uint32{}, [8]uint32{}
	var rising [8]uint32
	var full [64]byte
	for i := range ones {
		ones[i], rising[i] = math.MaxUint32, uint32(i+1)*0x11111111
	}
	for i := range full {
		full[i] = math.MaxUint8
	}
	cases := []struct {
		h     [8]uint32
		block [64]byte
		count uint64
		last  bool
		want  [8]uint32
	}{
		{none, [64]byte{}, 0, false, [8]uint32{0x6e26b02a, 0xa6a7800d, 0x51bb7b89, 0x1f01db51, 0x077b942d, 0x23e6122a, 0xa37d48e1, 0x6e00c75e}},
		{none, [64]byte{}, 0, true, [8]uint32{0x45ec4013, 0xd925613b, 0x856d2a3c, 0xbf944ff6, 0xc50a2561, 0x65e31379, 0x16784816, 0x47ad26d8}},
		{rising, block64(), 64, false, [8]uint32{0x71729fbb, 0x5d72993f, 0xe3c2b0a4, 0x203b6018, 0xb2f28680, 0x21847908, 0x9bda1836, 0xaea05041}},
		{rising, block64(), 64, true, [8]uint32{0x7d2e9697, 0xb91a2e3f, 0xeb30b8e5, 0x340e087f, 0xf80db7b9, 0x048123be, 0x778b5e00, 0xb70d2424}},
		{rising, block64(), 0x123456789abcdef0, false, [8]uint32{0x7475da28, 0x6301bd0f, 0x3d00da3a, 0xf775ea0f, 0x014469a7, 0x03290ff5, 0x3824ef98, 0xbae466c9}},
		{rising, block64(), math.MaxUint64, true, [8]uint32{0xe605fd19, 0xc6fd62e4, 0xfab8d48c, 0xec59f289, 0x17b03f47, 0x989b7636, 0xe2ebde48, 0x4fe279ea}},
		{ones, full, 1 << 32, false, [8]uint32{0x7de6315c, 0x4ac0b788, 0xb3a95057, 0x45ead135, 0xbacbc3cd, 0x0c2e3c45, 0x6f2125e2, 0xd116b059}},
	}
	for _, c := range cases {
		if got := blake.Press(c.h, c.block, c.count, c.last); got != c.want {
			t.Errorf("Press(%x, %x, %x, %t) = %x, want %x", c.h, c.block, c.count, c.last, got, c.want)
		}
	}
}

// P5.1: what h becomes, by the chapter to the letter.
func TestPress(t *testing.T) {
	draw := rand.New(rand.NewSource(51))
	for range 50 {
		var h [8]uint32
		var block [64]byte
		for i := range h {
			h[i] = draw.Uint32()
		}
		draw.Read(block[:])
		for _, count := range append(counts(), draw.Uint64()) {
			for _, last := range []bool{false, true} {
				got, want := blake.Press(h, block, count, last), plainPress(h, block, count, last)
				if got != want {
					t.Fatalf("Press(%x, %x, %x, %t) = %x, want %x", h, block, count, last, got, want)
				}
			}
		}
	}
}

// P5.1: each bit of what is handed in counts, as each in its own way.
func TestPressTellsBitsApart(t *testing.T) {
	h, block := plainBeginning(), block64()
	seen := map[[8]uint32]int{}
	hold := func(got [8]uint32) { seen[got]++ }
	hold(blake.Press(h, block, 64, false))
	hold(blake.Press(h, block, 64, true))
	for bit := range 32 * len(h) {
		turned := h
		turned[bit/32] ^= 1 << (bit % 32)
		hold(blake.Press(turned, block, 64, false))
	}
	for bit := range 8 * len(block) {
		turned := block
		turned[bit/8] ^= 1 << (bit % 8)
		hold(blake.Press(h, turned, 64, false))
	}
	for bit := range 64 {
		hold(blake.Press(h, block, 64^1<<bit, false))
	}
	if want := 2 + 32*len(h) + 8*len(block) + 64; len(seen) != want {
		t.Errorf("%d answers, want %d", len(seen), want)
	}
}

// P5.4: h and the block stay, and the same is answered again.
func TestPressKeepsNothing(t *testing.T) {
	h, block := plainBeginning(), block64()
	first := blake.Press(h, block, 64, true)
	blake.Press(first, [64]byte{}, 1, false)
	if h != plainBeginning() || block != block64() {
		t.Errorf("h is %x, the block %x", h, block)
	}
	if again := blake.Press(h, block, 64, true); again != first {
		t.Errorf("told again it is %x, and was %x", again, first)
	}
}
