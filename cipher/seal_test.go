package cipher_test

import (
	"bytes"
	"crypto/sha256"
	"encoding/hex"
	"math/rand"
	"slices"
	"testing"

	"obol/api"
	"obol/cipher"
)

func someData(n int) []byte { return rising(n, 5, 1) }

// P6.2 in texts that no code of the project sealed.
func TestSealInNumbers(t *testing.T) {
	const stream = "10e1f5f03c6ea8e6e721d98a91226b0c373e8ddcc8186be8814aa9a45b85156fafe16c8fa6150b37e5d0f494e632949a56507d204063af73548199d5fdb64b"
	cases := []struct {
		data, text int
		want       string
	}{
		{0, 0, "8f6c98850b61ed380e33cb1d044997d8"},
		{0, 1, "10301abf66c98e9ed1c92c2bcc358b80eb"},
		{1, 0, "a06b81df10b9b65b42a048f1d90532db"},
		{16, 16, stream[:32] + "afd5dc15e76a398e05a0f06ea9df4ae8"},
		{15, 17, stream[:34] + "7aa930359871660bc238222366b9e643"},
		{12, 63, stream + "b440e44d2cc281466a9e5f7ed9a046e6"},
		{33, 64, stream + "0c8f483dda90f305fe9084af86b0de5e6b"},
		{5, 65, stream + "0c311e5403fe67ba30d67f6abb7e0f40c3ac"},
		{7, 130, stream + "0c31f37908ccaebb24fa013483016b79aa1a0029fa811cfdb14bd847a2db4edd84ed7f6fa8f0e34f3cd2376a4a8739ddcc9a4cf41e940a41732bb8068c7b9631f9c13372914e62cfe3e45f7805f8808504c947"},
	}
	for _, c := range cases {
		got, err := cipher.Seal(someKey(), someNonce(), someData(c.data), message(c.text))
		if hex.EncodeToString(got) != c.want || err != nil {
			t.Errorf("Seal(%d bytes, %d bytes) = %x, %v, want %s", c.data, c.text, got, err, c.want)
		}
		text, err := cipher.Open(someKey(), someNonce(), someData(c.data), got)
		if !bytes.Equal(text, message(c.text)) || err != nil {
			t.Errorf("Open(%d bytes, %x) = %x, %v, want %x", c.data, got, text, err, message(c.text))
		}
	}
}

// P6.2: a digest of 200 sealed texts that no code of the project sealed.
func TestSealsInOneNumber(t *testing.T) {
	all := sha256.New()
	for n := range 200 {
		b, err := cipher.Seal(rising(32, n|1, n), rising(12, 2*n+1, n^77), someData(n*3%67), message(n))
		if err != nil {
			t.Fatal(err)
		}
		all.Write(b)
	}
	const want = "fc85d448d7eea7a353a05dc46077a6b5f87099ac0c90562859da0aa821d22d7e"
	if got := hex.EncodeToString(all.Sum(nil)); got != want {
		t.Errorf("the digest is %s, want %s", got, want)
	}
}

// sizes are around the ends of pieces and of blocks.
func sizes() []int {
	return []int{0, 1, 15, 16, 17, 31, 32, 33, 63, 64, 65, 127, 128, 129, 192, 300}
}

// P6.2, P6.3, P6.5: by the chapter to the letter, and opened as it was.
func TestSealAndOpen(t *testing.T) {
	draw := rand.New(rand.NewSource(63))
	key, nonce := make([]byte, 32), make([]byte, 12)
	for _, d := range sizes() {
		for _, n := range sizes() {
			data, text := make([]byte, d), make([]byte, n)
			for _, b := range [][]byte{key, nonce, data, text} {
				draw.Read(b)
			}
			sealed, err := cipher.Seal(key, nonce, data, text)
			if want := plainSeal(key, nonce, data, text); !bytes.Equal(sealed, want) || err != nil {
				t.Fatalf("Seal(%x, %x, %x, %x) = %x, %v, want %x", key, nonce, data, text, sealed, err, want)
			}
			if got, err := cipher.Open(key, nonce, data, sealed); !bytes.Equal(got, text) || err != nil {
				t.Fatalf("Open(%x, %x, %x, %x) = %x, %v, want %x", key, nonce, data, sealed, got, err, text)
			}
		}
	}
}

// P6.2, P6.5: a long text, of many blocks.
func TestSealLong(t *testing.T) {
	text := message(100_003)
	sealed, err := cipher.Seal(someKey(), someNonce(), someData(70_001), text)
	if want := plainSeal(someKey(), someNonce(), someData(70_001), text); !bytes.Equal(sealed, want) || err != nil {
		t.Errorf("sealed otherwise than it should be, %v", err)
	}
	if got, err := cipher.Open(someKey(), someNonce(), someData(70_001), sealed); !bytes.Equal(got, text) || err != nil {
		t.Errorf("opened otherwise than it was, %v", err)
	}
}

// P6.2, P6.3: no data and no text are told as nil or as empty.
func TestSealNothing(t *testing.T) {
	want := plainSeal(someKey(), someNonce(), nil, nil)
	for _, data := range [][]byte{nil, {}} {
		for _, text := range [][]byte{nil, {}} {
			if got, err := cipher.Seal(someKey(), someNonce(), data, text); !bytes.Equal(got, want) || err != nil {
				t.Errorf("Seal(%#v, %#v) = %x, %v, want %x", data, text, got, err, want)
			}
		}
		if got, err := cipher.Open(someKey(), someNonce(), data, want); len(got) != 0 || err != nil {
			t.Errorf("Open(%#v) = %x, %v, want no text", data, got, err)
		}
	}
}

func holdUnopened(t *testing.T, key, nonce, data, sealed []byte) {
	t.Helper()
	if got, err := cipher.Open(key, nonce, data, sealed); len(got) != 0 || err != api.ErrOpen {
		t.Errorf("Open(%x, %x, %x, %x) = %x, %v, want none, ErrOpen", key, nonce, data, sealed, got, err)
	}
}

// P6.3, R3: ErrOpen itself where there are fewer bytes than a mark has.
func TestOpenTooShort(t *testing.T) {
	holdUnopened(t, someKey(), someNonce(), nil, nil)
	holdUnopened(t, someKey(), someNonce(), nil, []byte{})
	whole := plainSeal(someKey(), someNonce(), nil, nil)
	for n := range 16 {
		holdUnopened(t, someKey(), someNonce(), nil, whole[:n])
		holdUnopened(t, someKey(), someNonce(), nil, message(n))
		holdUnopened(t, someKey(), someNonce(), someData(n), whole[16-n:])
	}
}

// P6.3, P6.5: with any bit turned it isn't opened.
func TestOpenWithABitTurned(t *testing.T) {
	for _, n := range []int{0, 1, 16, 70} {
		data := someData(n + 3)
		sealed := plainSeal(someKey(), someNonce(), data, message(n))
		for _, turned := range turnedBits(sealed) {
			holdUnopened(t, someKey(), someNonce(), data, turned)
		}
		for _, turned := range turnedBits(data) {
			holdUnopened(t, someKey(), someNonce(), turned, sealed)
		}
		for _, turned := range turnedBits(someKey()) {
			holdUnopened(t, turned, someNonce(), data, sealed)
		}
		for _, turned := range turnedBits(someNonce()) {
			holdUnopened(t, someKey(), turned, data, sealed)
		}
	}
}

// P6.3: bytes that are taken off, laid behind, or moved from the data to the
// text or back, are not opened.
func TestOpenWithBytesMoved(t *testing.T) {
	data := someData(20)
	sealed := plainSeal(someKey(), someNonce(), data, message(40))
	for n := range 56 {
		holdUnopened(t, someKey(), someNonce(), data, sealed[:n])
		holdUnopened(t, someKey(), someNonce(), data, sealed[n+1:])
	}
	for n := range 20 {
		holdUnopened(t, someKey(), someNonce(), data[:n], sealed)
		holdUnopened(t, someKey(), someNonce(), data[:n], slices.Concat(data[n:], sealed))
		holdUnopened(t, someKey(), someNonce(), slices.Concat(data, make([]byte, n+1)), sealed)
		holdUnopened(t, someKey(), someNonce(), slices.Concat(data, sealed[:n+1]), sealed[n+1:])
		holdUnopened(t, someKey(), someNonce(), data, slices.Concat(sealed[:40], make([]byte, n+1), sealed[40:]))
		holdUnopened(t, someKey(), someNonce(), data, slices.Concat(sealed, make([]byte, n+1)))
	}
	holdUnopened(t, someKey(), someNonce(), nil, sealed)
}

// P6.3: where the mark is that of the others, it is opened, whoever sealed it;
// so a text can be turned by who has the key.
func TestOpenWhatTheMarkFits(t *testing.T) {
	for _, n := range sizes() {
		sealed := plainSeal(someKey(), someNonce(), someData(9), plainSeal(someKey(), someNonce(), someData(9), message(n))[:n])
		want := make([]byte, n)
		for i, b := range plainSeal(someKey(), someNonce(), nil, make([]byte, n))[:n] {
			want[i] = message(n)[i] ^ b
		}
		if got, err := cipher.Open(someKey(), someNonce(), someData(9), sealed); !bytes.Equal(got, want) || err != nil {
			t.Errorf("Open of %d bytes = %x, %v, want %x", n, got, err, want)
		}
	}
}

// guarded is b with bytes behind its end, which no call may touch.
func guarded(b []byte) (inner, whole []byte) {
	whole = slices.Concat(b, message(100))
	return whole[:len(b)], whole
}

// P6.4: what is handed in stays, also behind its end.
func TestNothingIsChanged(t *testing.T) {
	for _, n := range sizes() {
		sealed := plainSeal(someKey(), someNonce(), someData(n), message(n))
		wrong := bytes.Clone(sealed)
		wrong[0] ^= 1
		var wholes, before [][]byte
		hold := func(b []byte) []byte {
			inner, whole := guarded(b)
			wholes, before = append(wholes, whole), append(before, bytes.Clone(whole))
			return inner
		}
		key, nonce, data, text := hold(someKey()), hold(someNonce()), hold(someData(n)), hold(message(n))
		good, bad := hold(sealed), hold(wrong)
		cipher.Block(key, nonce, 1)
		cipher.Block(nonce, key, 1)
		cipher.Mark(key, text)
		cipher.Seal(key, nonce, data, text)
		cipher.Open(key, nonce, data, good)
		cipher.Open(key, nonce, data, bad)
		for i := range wholes {
			if !bytes.Equal(wholes[i], before[i]) {
				t.Errorf("%x became %x", before[i], wholes[i])
			}
		}
	}
}

// P6.4: the answers are neither what was handed in, nor kept: they stay when it
// goes, and the same comes again when they are gone.
func TestNothingIsKept(t *testing.T) {
	sealedBefore := plainSeal(someKey(), someNonce(), someData(20), message(40))
	calls := map[string]func(key, nonce, data, text, sealed []byte) ([]byte, error){
		"Block": func(key, nonce, _, _, _ []byte) ([]byte, error) { return cipher.Block(key, nonce, 3) },
		"Mark":  func(key, _, _, text, _ []byte) ([]byte, error) { return cipher.Mark(key, text) },
		"Mark of nothing": func(key, _, _, _, _ []byte) ([]byte, error) {
			return cipher.Mark(key, nil)
		},
		"Seal": func(key, nonce, data, text, _ []byte) ([]byte, error) {
			return cipher.Seal(key, nonce, data, text)
		},
		"Open": func(key, nonce, data, _, sealed []byte) ([]byte, error) {
			return cipher.Open(key, nonce, data, sealed)
		},
	}
	for name, call := range calls {
		key, nonce, data, text, sealed := someKey(), someNonce(), someData(20), message(40), bytes.Clone(sealedBefore)
		first, err := call(key, nonce, data, text, sealed)
		if err != nil {
			t.Fatal(name, err)
		}
		told := bytes.Clone(first)
		for _, b := range [][]byte{key, nonce, data, text, sealed} {
			clear(b)
		}
		if !bytes.Equal(first, told) {
			t.Errorf("%s: the answer became %x with what was handed in", name, first)
		}
		clear(first[:cap(first)])
		again, err := call(someKey(), someNonce(), someData(20), message(40), sealedBefore)
		if !bytes.Equal(again, told) || err != nil {
			t.Errorf("%s: told again it is %x, %v, and was %x", name, again, err, told)
		}
	}
}

// P6.4: one piece of memory may be handed in as several things.
func TestOneMemoryForAll(t *testing.T) {
	one := message(32)
	sealed, err := cipher.Seal(one, one[:12], one[3:9], one)
	if want := plainSeal(message(32), message(12), message(32)[3:9], message(32)); !bytes.Equal(sealed, want) || err != nil {
		t.Errorf("sealed as %x, %v, want %x", sealed, err, want)
	}
	if text, err := cipher.Open(one, one[:12], one[3:9], sealed); !bytes.Equal(text, message(32)) || err != nil {
		t.Errorf("opened as %x, %v", text, err)
	}
}
