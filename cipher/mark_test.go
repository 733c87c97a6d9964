package cipher_test

import (
	"bytes"
	"crypto/sha256"
	"encoding/hex"
	"math/big"
	"math/rand"
	"slices"
	"testing"

	"obol/api"
	"obol/cipher"
)

// P6.1 in marks that no code of the project told; the first one is RFC 8439's.
func TestMarkInNumbers(t *testing.T) {
	standard, err := hex.DecodeString("85d6be7857556d337f4452fe42d506a80103808afb0db2fd4abff6af4149f51b")
	if err != nil {
		t.Fatal(err)
	}
	cases := []struct {
		key, b []byte
		want   string
	}{
		{standard, []byte("Cryptographic Forum Research Group"), "a8061dc1305136c6c22b8baf0c0127a9"},
		{someKey(), message(0), "b5c0cbd6e1ecf7020d18232e39444f5a"},
		{someKey(), message(1), "cef52c0478d1095123ade5ccdf89c219"},
		{someKey(), message(15), "9448c33ae7e472056bd4388db08822a8"},
		{someKey(), message(16), "3ac09559d5a77c1aa4e2d5b434e2f6d1"},
		{someKey(), message(17), "4345d18f5572db9efb09859a819fd18d"},
		{someKey(), message(31), "aaa41f12d2a0755d3a4cb44c5ce9a82e"},
		{someKey(), message(32), "10e94874aa58bec3857738dc1a884c8e"},
		{someKey(), message(33), "dd837629c6d3546c21bea97ba3b08bd8"},
		{someKey(), message(64), "ec6bdfddb1bf2cd15f459a4681ff5a4f"},
		{someKey(), message(100), "666309f646e2285b6e071409989aa4f9"},
		{someKey(), message(1000), "a29de5c86be8dd8675c896f7be8c615c"},
		{same(32, 255), same(100, 255), "b99c030d7ce939bb6607393e68656f22"},
	}
	for _, c := range cases {
		if got, err := cipher.Mark(c.key, c.b); hex.EncodeToString(got) != c.want || err != nil {
			t.Errorf("Mark(%x, %d bytes) = %x, %v, want %s", c.key, len(c.b), got, err, c.want)
		}
	}
}

// P6.1: a digest of 200 marks that no code of the project told.
func TestMarksInOneNumber(t *testing.T) {
	all := sha256.New()
	for n := range 200 {
		mark, err := cipher.Mark(rising(32, n|1, n), message(n))
		if err != nil {
			t.Fatal(err)
		}
		all.Write(mark)
	}
	const want = "2dae37c90ac2d9094eab3be6a4640ee0e5552959e9fea35d5cc0d9e4167fda62"
	if got := hex.EncodeToString(all.Sum(nil)); got != want {
		t.Errorf("the digest is %s, want %s", got, want)
	}
}

func holdMark(t *testing.T, key, b []byte) {
	t.Helper()
	got, err := cipher.Mark(key, b)
	if want := plainMark(key, b); !bytes.Equal(got, want) || err != nil {
		t.Fatalf("Mark(%x, %x) = %x, %v, want %x", key, b, got, err, want)
	}
}

// P6.1: marks of every length by the chapter to the letter, with drawn bytes
// and with such as carry most.
func TestMark(t *testing.T) {
	draw := rand.New(rand.NewSource(62))
	key := make([]byte, 32)
	for n := range 150 {
		b := make([]byte, n)
		for range 20 {
			draw.Read(key)
			draw.Read(b)
			holdMark(t, key, b)
			holdMark(t, key, same(n, 255))
			holdMark(t, key, same(n, 0))
			holdMark(t, same(32, 255), b)
		}
		holdMark(t, same(32, 255), same(n, 255))
	}
}

// P6.1: r's bits that don't count, and each one that does.
func TestMarkByBitsOfTheKey(t *testing.T) {
	seen := map[string]int{}
	for _, key := range turnedBits(someKey()) {
		holdMark(t, key, message(40))
		mark, _ := cipher.Mark(key, message(40))
		seen[string(mark)]++
	}
	// The 22 bits that don't count have one mark, the others one each.
	if want := 256 - 22 + 1; len(seen) != want {
		t.Errorf("%d marks, want %d", len(seen), want)
	}
}

// summingUpTo are whole pieces whose numbers, each with its 1 behind, are the
// sum together. The sum must be at least 2^128, as each of them is.
func summingUpTo(sum *big.Int) []byte {
	most := power2(129, 1)
	var b []byte
	for left := new(big.Int).Set(sum); left.Sign() > 0; {
		next := new(big.Int).Set(left)
		if left.Cmp(most) > 0 {
			next.Sub(left, power2(128, 0))
			if next.Cmp(most) > 0 {
				next.Set(most)
			}
		}
		left.Sub(left, next)
		b = append(b, lowBytes16(next.Sub(next, power2(128, 0)))...)
	}
	return b
}

// P6.1: with r as 1 the sum is that of the pieces: around 2^130 - 5, and twice
// that, and around 2^130, each by each beginning of s.
func TestMarkAtTheModulus(t *testing.T) {
	for _, s := range [][]byte{same(16, 0), same(16, 255), message(16)} {
		key := append(same(16, 0), s...)
		key[0] = 1
		for times := range int64(5) {
			for off := int64(-12); off <= 12; off++ {
				sum := new(big.Int).Mul(power2(130, 5), big.NewInt(times+1))
				sum.Add(sum, big.NewInt(off))
				b := summingUpTo(sum)
				want := new(big.Int).Mod(sum, power2(130, 5))
				want.Add(want, lowFirst(s)).Mod(want, power2(128, 0))
				got, err := cipher.Mark(key, b)
				if !bytes.Equal(got, lowBytes16(want)) || err != nil {
					t.Errorf("of %d times the modulus and %d: Mark(%x, %x) = %x, %v, want %x", times+1, off, key, b, got, err, lowBytes16(want))
				}
			}
		}
	}
}

// P6.1: bytes that carry from word to word, with r's of one bit or a few.
func TestMarkCarries(t *testing.T) {
	pieces := [][]byte{same(16, 0), same(16, 255), append(same(8, 255), same(8, 0)...), append(same(8, 0), same(8, 255)...), append([]byte{251}, same(15, 255)...), append([]byte{1}, same(15, 0)...)}
	var all [][]byte
	for _, one := range pieces {
		for _, two := range pieces {
			for _, three := range append(pieces, nil) {
				all = append(all, slices.Concat(one, two, three))
			}
		}
	}
	keys := turnedBits(same(32, 0))[:128]
	keys = append(keys, same(32, 0), same(32, 255), append(same(16, 255), same(16, 0)...), append(same(16, 0), same(16, 255)...))
	for _, key := range keys {
		for _, b := range all {
			holdMark(t, key, b)
		}
	}
}

// P6.1: bytes 00 at the end count.
func TestMarkCountsBytes(t *testing.T) {
	seen := map[string]int{}
	for n := range 70 {
		mark, err := cipher.Mark(someKey(), make([]byte, n))
		if err != nil {
			t.Fatal(err)
		}
		if len(mark) != 16 {
			t.Errorf("the mark of %d bytes has %d", n, len(mark))
		}
		seen[string(mark)]++
	}
	if len(seen) != 70 {
		t.Errorf("%d marks, want 70", len(seen))
	}
}

// P6.1: of no bytes the mark is s, told as nil or as empty.
func TestMarkOfNoBytes(t *testing.T) {
	for _, b := range [][]byte{nil, {}} {
		if got, err := cipher.Mark(someKey(), b); !bytes.Equal(got, someKey()[16:]) || err != nil {
			t.Errorf("Mark of %#v = %x, %v, want %x", b, got, err, someKey()[16:])
		}
	}
}

// P6.1, R3: ErrArg itself at each other length of a key.
func TestMarkByOtherKeys(t *testing.T) {
	for _, n := range lengths() {
		for _, b := range [][]byte{nil, {}, message(16), message(33)} {
			got, err := cipher.Mark(message(n), b)
			if n != 32 && (len(got) != 0 || err != api.ErrArg) {
				t.Errorf("Mark by %d bytes = %x, %v, want none, ErrArg", n, got, err)
			}
			if n == 32 && err != nil {
				t.Errorf("Mark by %d bytes: %v", n, err)
			}
		}
	}
	if got, err := cipher.Mark(nil, nil); len(got) != 0 || err != api.ErrArg {
		t.Errorf("Mark by no key = %x, %v, want none, ErrArg", got, err)
	}
}
