package words_test

import (
	"bytes"
	"encoding/binary"
	"math"
	"slices"
	"testing"

	"obol/words"
)

func numbers() []uint64 {
	return []uint64{0, 1, 255, 256, 0x0102030405060708, 0xfffefdfcfbfaf9f8, 1 << 63, math.MaxUint64}
}

func TestBytesHaveTheHighestFirst(t *testing.T) {
	for _, n := range numbers() {
		if got, want := words.Bytes(n), binary.BigEndian.AppendUint64(nil, n); !bytes.Equal(got, want) {
			t.Errorf("Bytes(%x) = %x, want %x", n, got, want)
		}
	}
}

func TestBytesOfSeveral(t *testing.T) {
	if got := words.Bytes(); len(got) != 0 {
		t.Errorf("Bytes() = %x, want none", got)
	}
	all := numbers()
	var want []byte
	for _, n := range all {
		want = binary.BigEndian.AppendUint64(want, n)
	}
	if got := words.Bytes(all...); !bytes.Equal(got, want) {
		t.Errorf("Bytes(%x) = %x, want %x", all, got, want)
	}
	if !slices.Equal(all, numbers()) {
		t.Errorf("Bytes changed the numbers to %x", all)
	}
}

func TestNumberReadsBytes(t *testing.T) {
	for _, n := range numbers() {
		b := words.Bytes(n)
		if len(b) != words.Size {
			t.Errorf("%x has %d bytes", n, len(b))
		}
		if got := words.Number(b); got != n {
			t.Errorf("Number(%x) = %x, want %x", b, got, n)
		}
	}
}

func TestNumberOfOtherLengths(t *testing.T) {
	cases := []struct {
		b    []byte
		want uint64
	}{
		{nil, 0},
		{[]byte{}, 0},
		{[]byte{7}, 7},
		{[]byte{1, 2}, 258},
		{[]byte{9, 1, 2, 3, 4, 5, 6, 7, 8}, 0x0102030405060708},
	}
	for _, c := range cases {
		if got := words.Number(c.b); got != c.want {
			t.Errorf("Number(%x) = %x, want %x", c.b, got, c.want)
		}
	}
}

func TestLowBytesHaveTheLowestFirst(t *testing.T) {
	all := []uint32{0, 1, 255, 256, 0x01020304, 0xfffefdfc, 1 << 31, math.MaxUint32}
	before := slices.Clone(all)
	var want []byte
	for _, n := range all {
		one := binary.LittleEndian.AppendUint32(nil, n)
		if got := words.LowBytes(n); !bytes.Equal(got, one) {
			t.Errorf("LowBytes(%x) = %x, want %x", n, got, one)
		}
		want = append(want, one...)
	}
	if got := words.LowBytes(all...); !bytes.Equal(got, want) {
		t.Errorf("LowBytes(%x) = %x, want %x", all, got, want)
	}
	if got := words.LowBytes(); len(got) != 0 {
		t.Errorf("LowBytes() = %x, want none", got)
	}
	if !slices.Equal(all, before) {
		t.Errorf("LowBytes changed the numbers to %x", all)
	}
}

func TestLowNumber(t *testing.T) {
	for _, n := range numbers() {
		if b := binary.LittleEndian.AppendUint64(nil, n); words.LowNumber(b) != n {
			t.Errorf("LowNumber(%x) = %x, want %x", b, words.LowNumber(b), n)
		}
	}
	cases := []struct {
		b    []byte
		want uint64
	}{
		{nil, 0},
		{[]byte{}, 0},
		{[]byte{7}, 7},
		{[]byte{1, 2}, 513},
		{[]byte{1, 2, 3, 4}, 0x04030201},
		{[]byte{1, 2, 3, 4, 5, 6, 7, 8, 9}, 0x0807060504030201},
	}
	for _, c := range cases {
		if got := words.LowNumber(c.b); got != c.want {
			t.Errorf("LowNumber(%x) = %x, want %x", c.b, got, c.want)
		}
	}
}
