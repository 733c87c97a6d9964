package cipher

import (
	"bytes"
	"math"
	"testing"
)

// The stream's count goes on modulo 2^32: no text of the exported calls is long
// enough to tell.
func TestStreamGoesRound(t *testing.T) {
	key, nonce := bytes.Repeat([]byte{7}, 32), bytes.Repeat([]byte{9}, 12)
	next := stream(key, nonce, math.MaxUint32-1)
	for _, count := range []uint32{math.MaxUint32 - 1, math.MaxUint32, 0, 1} {
		want, err := Block(key, nonce, count)
		if err != nil {
			t.Fatal(err)
		}
		var got []byte
		for range len(want) {
			got = append(got, next())
		}
		if !bytes.Equal(got, want) {
			t.Errorf("at %d the stream is %x, want %x", count, got, want)
		}
	}
}

// Two streams of one key carry on each for itself.
func TestStreamsAreApart(t *testing.T) {
	key, nonce := make([]byte, 32), make([]byte, 12)
	one, other := stream(key, nonce, 0), stream(key, nonce, 0)
	for range 100 {
		one()
	}
	want, err := Block(key, nonce, 0)
	if err != nil {
		t.Fatal(err)
	}
	for i := range want {
		if got := other(); got != want[i] {
			t.Fatalf("byte %d is %x, want %x", i, got, want[i])
		}
	}
}
