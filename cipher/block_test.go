package cipher_test

import (
	"bytes"
	"crypto/sha256"
	"encoding/hex"
	"math"
	"math/rand"
	"testing"

	"obol/api"
	"obol/cipher"
)

// rising are n bytes that go up by step.
func rising(n, step, first int) []byte {
	b := make([]byte, n)
	for i := range b {
		b[i] = byte(step*i + first)
	}
	return b
}

func message(n int) []byte { return rising(n, 7, 3) }

func someKey() []byte { return rising(32, 11, 5) }

func someNonce() []byte { return rising(12, 13, 9) }

// same are n bytes that are all alike.
func same(n int, b byte) []byte { return bytes.Repeat([]byte{b}, n) }

// P6.1 in blocks that no code of the project told; the first one is RFC 8439's.
func TestBlockInNumbers(t *testing.T) {
	cases := []struct {
		key, nonce []byte
		count      uint32
		want       string
	}{
		{rising(32, 1, 0), []byte{0, 0, 0, 9, 0, 0, 0, 0x4a, 0, 0, 0, 0}, 1, "10f1e7e4d13b5915500fdd1fa32071c4c7d1f4c733c068030422aa9ac3d46c4ed2826446079faa0914c2d705d98b02a2b5129cd1de164eb9cbd083e8a2503c4e"},
		{same(32, 0), same(12, 0), 0, "76b8e0ada0f13d90405d6ae55386bd28bdd219b8a08ded1aa836efcc8b770dc7da41597c5157488d7724e03fb8d84a376a43b8f41518a11cc387b669b2ee6586"},
		{same(32, 0), same(12, 0), 1, "9f07e7be5551387a98ba977c732d080dcb0f29a048e3656912c6533e32ee7aed29b721769ce64e43d57133b074d839d531ed1f28510afb45ace10a1f4b794d6f"},
		{same(32, 255), same(12, 255), math.MaxUint32, "d72b21cfa4b6b0c41d61f62b8a11159c6a4f63bc56c2035796c7ad37811121bbec56d54a530f3a933dd28a50feb23bfaf64f405be985f3718bdf4683e96be749"},
		{someKey(), someNonce(), 0, "ecb1c5b6a50ad863c0b18a7b569fa3d0284e217dbe531f34ded45d0fdbc1cad7a64c1c421565bc1665a1cd474a684702fe59e76b8bdcd9b6a2396a0a96fe910b"},
		{someKey(), someNonce(), 1 << 31, "930988184f44eb70874d9b31a03adbb61b6deb506945a3f58c14afb7b2b7cd9074bd6feb20724dc842b1f83a3328627187838ecf7908abe9ee75d4df6c2c47da"},
		{someKey(), someNonce(), math.MaxUint32, "e3dcfa070a3530f88a17a462e71639163a8678dfd3bb16e13eab8387c9f885733dd4de05999a2c3f561eb05184afe805f9b84f9a54e2b6d4878f0d0c52e6fded"},
		{someKey(), someNonce(), 0x01020304, "4ecaecfed66c6cdfe92c5f0acabf93f83d1eefa57ff16c8b7539e910e0762cb22ec9e052b4f7a196aa12d54910b40d1b83a7e07749d85ee03ba47a272d30115b"},
	}
	for _, c := range cases {
		if got, err := cipher.Block(c.key, c.nonce, c.count); hex.EncodeToString(got) != c.want || err != nil {
			t.Errorf("Block(%x, %x, %x) = %x, %v, want %s", c.key, c.nonce, c.count, got, err, c.want)
		}
	}
}

// P6.1: a digest of 200 blocks that no code of the project told.
func TestBlocksInOneNumber(t *testing.T) {
	all := sha256.New()
	for n := range 200 {
		b, err := cipher.Block(rising(32, n|1, n), rising(12, 2*n+1, n^77), uint32(n)*0x9e3779b9)
		if err != nil {
			t.Fatal(err)
		}
		all.Write(b)
	}
	const want = "ee88c4f7e8f48ba0b4d071245aa642931edd6b941306aaa5e84267b1936d7bae"
	if got := hex.EncodeToString(all.Sum(nil)); got != want {
		t.Errorf("the digest is %s, want %s", got, want)
	}
}

// P6.1: blocks by the chapter to the letter.
func TestBlock(t *testing.T) {
	draw := rand.New(rand.NewSource(61))
	key, nonce := make([]byte, 32), make([]byte, 12)
	for range 100 {
		draw.Read(key)
		draw.Read(nonce)
		for _, count := range []uint32{0, 1, 255, 256, 1 << 31, math.MaxUint32, draw.Uint32()} {
			got, err := cipher.Block(key, nonce, count)
			if want := plainBlock(key, nonce, count); !bytes.Equal(got, want) || err != nil {
				t.Fatalf("Block(%x, %x, %x) = %x, %v, want %x", key, nonce, count, got, err, want)
			}
		}
	}
}

// turnedBits are copies of b, each with another bit turned.
func turnedBits(b []byte) [][]byte {
	var all [][]byte
	for bit := range 8 * len(b) {
		turned := bytes.Clone(b)
		turned[bit/8] ^= 1 << (bit % 8)
		all = append(all, turned)
	}
	return all
}

// P6.1: each bit of the key, the nonce and the count counts, in its own way.
func TestBlockTellsBitsApart(t *testing.T) {
	seen := map[string]int{}
	hold := func(key, nonce []byte, count uint32) {
		b, err := cipher.Block(key, nonce, count)
		if err != nil {
			t.Fatal(err)
		}
		seen[string(b)]++
	}
	hold(someKey(), someNonce(), 5)
	for _, key := range turnedBits(someKey()) {
		hold(key, someNonce(), 5)
	}
	for _, nonce := range turnedBits(someNonce()) {
		hold(someKey(), nonce, 5)
	}
	for bit := range 32 {
		hold(someKey(), someNonce(), 5^1<<bit)
	}
	if want := 1 + 8*(32+12) + 32; len(seen) != want {
		t.Errorf("%d blocks, want %d", len(seen), want)
	}
}

// lengths are those of keys and nonces, and around them.
func lengths() []int {
	return []int{0, 1, 8, 11, 12, 13, 16, 24, 31, 32, 33, 44, 64, 100}
}

// P6.1, P6.2, P6.3, R3: ErrArg itself at each other length of a key or a nonce,
// without an answer; R1: also where nothing could be opened.
func TestLengthsOfKeysAndNonces(t *testing.T) {
	for _, k := range lengths() {
		for _, n := range lengths() {
			key, nonce := message(k), message(n)
			wrong := k != 32 || n != 12
			hold := func(name string, got []byte, err error) {
				t.Helper()
				if wrong && (len(got) != 0 || err != api.ErrArg) {
					t.Errorf("%s with %d and %d bytes = %x, %v, want none, ErrArg", name, k, n, got, err)
				}
				if !wrong && err == api.ErrArg {
					t.Errorf("%s with %d and %d bytes is ErrArg", name, k, n)
				}
			}
			got, err := cipher.Block(key, nonce, 1)
			hold("Block", got, err)
			got, err = cipher.Seal(key, nonce, nil, message(20))
			hold("Seal", got, err)
			got, err = cipher.Seal(key, nonce, nil, nil)
			hold("Seal of nothing", got, err)
			for _, size := range []int{0, 15, 16, 17, 40} {
				got, err = cipher.Open(key, nonce, nil, message(size))
				hold("Open", got, err)
			}
		}
	}
	for _, none := range [][]byte{nil, {}} {
		if got, err := cipher.Block(none, none, 0); len(got) != 0 || err != api.ErrArg {
			t.Errorf("Block of no key = %x, %v, want none, ErrArg", got, err)
		}
	}
}
