package ext_test

import (
	"bytes"
	"encoding/binary"
	"math"
	"slices"
	"testing"

	"obol/api"
	"obol/ext"
)

// laid are the bytes of two numbers, whatever they are.
func laid(x, y uint64) []byte {
	return binary.BigEndian.AppendUint64(binary.BigEndian.AppendUint64(nil, x), y)
}

// P2.2, R3: an element's bytes, or ErrArg without any, for either number.
func TestWrite(t *testing.T) {
	for _, a := range elements() {
		got, err := ext.Write(a)
		if a != rests(a) {
			if len(got) != 0 || err != api.ErrArg {
				t.Errorf("Write(%d) = %x, %v, want none, ErrArg", a, got, err)
			}
			continue
		}
		if want := laid(a[0], a[1]); err != nil || !bytes.Equal(got, want) {
			t.Errorf("Write(%d) = %x, %v, want %x", a, got, err, want)
		}
	}
}

// P2.2, R3: the element, or ErrForm with 0 beside it, for either number.
func TestRead(t *testing.T) {
	for _, a := range elements() {
		b := laid(a[0], a[1])
		got, err := ext.Read(b)
		if a != rests(a) {
			if got != zero || err != api.ErrForm {
				t.Errorf("Read(%x) = %d, %v, want 0, ErrForm", b, got, err)
			}
			continue
		}
		if err != nil || got != a {
			t.Errorf("Read(%x) = %d, %v, want %d", b, got, err, a)
		}
	}
}

// P2.2 at the bound, in plain bytes.
func TestBytesAtTheBound(t *testing.T) {
	last := []byte{0x10, 0, 0, 0, 0x20, 0x70, 0, 2}
	both := slices.Concat(last, last)
	if got, err := ext.Write(api.E{api.P - 1, api.P - 1}); err != nil || !bytes.Equal(got, both) {
		t.Errorf("Write = %x, %v, want %x", got, err, both)
	}
	if got, err := ext.Read(both); err != nil || got != (api.E{api.P - 1, api.P - 1}) {
		t.Errorf("Read = %d, %v", got, err)
	}
	for _, at := range []int{7, 15} {
		b := slices.Clone(both)
		b[at]++
		if got, err := ext.Read(b); got != zero || err != api.ErrForm {
			t.Errorf("Read(%x) = %d, %v, want 0, ErrForm", b, got, err)
		}
	}
}

// P2.2: no other length is an element's.
func TestReadOfOtherLengths(t *testing.T) {
	whole := append(laid(3, 5), laid(7, 11)...)
	for n := range len(whole) + 1 {
		if n == 16 {
			continue
		}
		if got, err := ext.Read(whole[:n]); got != zero || err != api.ErrForm {
			t.Errorf("Read of %d bytes = %d, %v, want 0, ErrForm", n, got, err)
		}
		if got, err := ext.Read(make([]byte, n)); got != zero || err != api.ErrForm {
			t.Errorf("Read of %d bytes 0 = %d, %v, want 0, ErrForm", n, got, err)
		}
	}
	if got, err := ext.Read(nil); got != zero || err != api.ErrForm {
		t.Errorf("Read(nil) = %d, %v, want 0, ErrForm", got, err)
	}
}

// P2.2: each bit of the bytes counts.
func TestReadTellsBytesApart(t *testing.T) {
	b := laid(api.P/3, api.P/5)
	for bit := range 8 * len(b) {
		turned := slices.Clone(b)
		turned[bit/8] ^= 1 << (bit % 8)
		a, err := ext.Read(turned)
		if err != nil {
			continue
		}
		if back, err := ext.Write(a); err != nil || !bytes.Equal(back, turned) {
			t.Errorf("Read(%x) = %d, whose bytes are %x, %v", turned, a, back, err)
		}
	}
}

// P2.3: the bytes that are read stay, also behind their end, and what is
// written is new each time.
func TestNothingIsChangedOrKept(t *testing.T) {
	b := append(laid(3, 5), 1, 2, 3)
	before := slices.Clone(b)
	if a, err := ext.Read(b[:16]); err != nil || a != (api.E{3, 5}) || !bytes.Equal(b, before) {
		t.Errorf("Read: %d, %v; the bytes are %x, want %x", a, err, b, before)
	}
	if _, err := ext.Read(b); err != api.ErrForm || !bytes.Equal(b, before) {
		t.Errorf("Read: %v; the bytes are %x, want %x", err, b, before)
	}
	first, _ := ext.Write(api.E{3, 5})
	for k := range first {
		first[k] = math.MaxUint8
	}
	if second, err := ext.Write(api.E{3, 5}); err != nil || !bytes.Equal(second, laid(3, 5)) {
		t.Errorf("Write tells %x, %v once its first answer was changed", second, err)
	}
}
