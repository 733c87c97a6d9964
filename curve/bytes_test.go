package curve_test

import (
	"bytes"
	"encoding/binary"
	"math"
	"math/rand"
	"slices"
	"testing"

	"obol/api"
	"obol/curve"
)

// laid are the bytes of Inf, or of the numbers, whatever they are.
func laid(a api.Pt) []byte {
	if a.Inf {
		return []byte{0}
	}
	return binary.BigEndian.AppendUint64(binary.BigEndian.AppendUint64([]byte{1}, a.X), a.Y)
}

// P3.3
func TestBytesOfPoints(t *testing.T) {
	for _, a := range points() {
		got, err := curve.Write(a)
		if want := laid(a); err != nil || !bytes.Equal(got, want) {
			t.Errorf("Write(%v) = %x, %v, want %x", a, got, err, want)
		}
		if back, err := curve.Read(laid(a)); err != nil || back != a {
			t.Errorf("Read(%x) = %v, %v, want %v", laid(a), back, err, a)
		}
	}
}

// P3.3 in plain bytes.
func TestBytesWrittenOut(t *testing.T) {
	cases := []struct {
		a api.Pt
		b []byte
	}{
		{inf, []byte{0}},
		{half, append([]byte{1}, make([]byte, 16)...)},
		{gen, []byte{1, 0x03, 0x6e, 0xe8, 0x00, 0xa6, 0x5e, 0xfd, 0x60, 0x0b, 0x85, 0xea, 0xc5, 0x60, 0x74, 0xbc, 0x62}},
	}
	for _, c := range cases {
		if got, err := curve.Write(c.a); err != nil || !bytes.Equal(got, c.b) {
			t.Errorf("Write(%v) = %x, %v, want %x", c.a, got, err, c.b)
		}
		if got, err := curve.Read(c.b); err != nil || got != c.a {
			t.Errorf("Read(%x) = %v, %v, want %v", c.b, got, err, c.a)
		}
	}
}

// P3.3, R3: what is no point has no bytes, though it counts as Inf elsewhere.
func TestWriteOfOthers(t *testing.T) {
	for _, a := range others() {
		if got, err := curve.Write(a); len(got) != 0 || err != api.ErrArg {
			t.Errorf("Write(%v) = %x, %v, want none, ErrArg", a, got, err)
		}
	}
}

func refuses(t *testing.T, b []byte) {
	t.Helper()
	if got, err := curve.Read(b); got != (api.Pt{}) || err != api.ErrForm {
		t.Errorf("Read(%x) = %v, %v, want the zero value, ErrForm", b, got, err)
	}
}

// P3.3, R3: numbers that aren't of a point.
func TestReadOfOthers(t *testing.T) {
	for _, a := range others() {
		a.Inf = false
		if !curve.Is(a) {
			refuses(t, laid(a))
		}
	}
}

// P3.3, R3: lengths and first bytes that no point's bytes have.
func TestReadOfOtherForms(t *testing.T) {
	for _, whole := range [][]byte{laid(gen), laid(half), laid(inf)} {
		for n := range len(whole) {
			if !bytes.Equal(whole[:n], laid(inf)) {
				refuses(t, whole[:n])
			}
		}
		for first := range 256 {
			b := slices.Clone(whole)
			b[0] = byte(first)
			if !bytes.Equal(b, whole) {
				refuses(t, b)
			}
		}
		refuses(t, append(slices.Clone(whole), 0))
		refuses(t, append([]byte{0}, whole...))
		refuses(t, append(slices.Clone(whole), whole...))
	}
	refuses(t, nil)
	refuses(t, []byte{})
	for n := 1; n < 40; n++ {
		if n > 1 {
			refuses(t, make([]byte, n))
		}
		refuses(t, bytes.Repeat([]byte{math.MaxUint8}, n))
	}
}

// P3.3: no two bytes are of one point.
func TestReadIsUndoneByWrite(t *testing.T) {
	b := laid(gen)
	for bit := range 8 * len(b) {
		turned := slices.Clone(b)
		turned[bit/8] ^= 1 << (bit % 8)
		if a, err := curve.Read(turned); err == nil {
			t.Errorf("Read(%x) = %v, though one bit of a point's bytes was turned", turned, a)
		}
	}
	draw := rand.New(rand.NewSource(33))
	for range 2000 {
		b := laid(api.Pt{X: draw.Uint64() % api.P, Y: draw.Uint64() % api.P})
		if draw.Intn(2) == 1 {
			a, _ := at(draw.Uint64() % api.P)
			b = laid(a)
		}
		a, err := curve.Read(b)
		if err != nil {
			continue
		}
		if back, err := curve.Write(a); err != nil || !bytes.Equal(back, b) {
			t.Errorf("Read(%x) = %v, whose bytes are %x, %v", b, a, back, err)
		}
	}
}

// P3.4: the bytes that are read stay, also behind their end, and what is
// written is new each time.
func TestNothingIsChangedOrKept(t *testing.T) {
	b := append(laid(gen), 1, 2, 3)
	before := slices.Clone(b)
	if a, err := curve.Read(b[:17]); err != nil || a != gen || !bytes.Equal(b, before) {
		t.Errorf("Read: %v, %v; the bytes are %x, want %x", a, err, b, before)
	}
	if _, err := curve.Read(b); err != api.ErrForm || !bytes.Equal(b, before) {
		t.Errorf("Read: %v; the bytes are %x, want %x", err, b, before)
	}
	for _, a := range []api.Pt{inf, gen} {
		first, _ := curve.Write(a)
		for k := range first {
			first[k] = math.MaxUint8
		}
		if second, err := curve.Write(a); err != nil || !bytes.Equal(second, laid(a)) {
			t.Errorf("Write tells %x, %v once its first answer was changed", second, err)
		}
	}
}
