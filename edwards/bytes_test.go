package edwards_test

import (
	"bytes"
	"encoding/binary"
	"math"
	"math/rand"
	"slices"
	"testing"

	"obol/api"
	"obol/edwards"
)

// P7.4
func TestBytesOfPoints(t *testing.T) {
	for _, a := range points() {
		want := plainBytes(a)
		if got, err := edwards.Write(a); err != nil || !bytes.Equal(got, want) {
			t.Errorf("Write(%v) = %x, %v, want %x", a, got, err, want)
		}
		if back, err := edwards.Read(want); err != nil || back != a {
			t.Errorf("Read(%x) = %v, %v, want %v", want, back, err, a)
		}
	}
}

// P7.4 in plain bytes: the X of the first point is odd.
func TestBytesWrittenOut(t *testing.T) {
	cases := []struct {
		a api.Ed
		b []byte
	}{
		{zero, []byte{0, 0, 0, 0, 0, 0, 0, 1}},
		{half, []byte{0x04, 0x00, 0x00, 0x00, 0x08, 0x1c, 0x00, 0x00}},
		{gen, []byte{0x81, 0x23, 0x84, 0xff, 0xb2, 0x12, 0x83, 0x5a}},
		{opposite(gen), []byte{0x01, 0x23, 0x84, 0xff, 0xb2, 0x12, 0x83, 0x5a}},
		{api.Ed{X: 25021074305951510}, []byte{0, 0, 0, 0, 0, 0, 0, 0}},
		{api.Ed{X: api.R - 25021074305951510}, []byte{0x80, 0, 0, 0, 0, 0, 0, 0}},
	}
	for _, c := range cases {
		if got, err := edwards.Write(c.a); err != nil || !bytes.Equal(got, c.b) {
			t.Errorf("Write(%v) = %x, %v, want %x", c.a, got, err, c.b)
		}
		if got, err := edwards.Read(c.b); err != nil || got != c.a {
			t.Errorf("Read(%x) = %v, %v, want %v", c.b, got, err, c.a)
		}
	}
}

// P7.4, R3: what is no point has no bytes, though it counts as 0 elsewhere.
func TestWriteOfOthers(t *testing.T) {
	for _, a := range others() {
		if got, err := edwards.Write(a); len(got) != 0 || err != api.ErrArg {
			t.Errorf("Write(%v) = %x, %v, want none, ErrArg", a, got, err)
		}
	}
}

func refuses(t *testing.T, b []byte) {
	t.Helper()
	if got, err := edwards.Read(b); got != (api.Ed{}) || err != api.ErrForm {
		t.Errorf("Read(%x) = %v, %v, want the zero value, ErrForm", b, got, err)
	}
}

// P7.4, R3: the X of 0 and of half is 0, which isn't odd.
func TestReadOfAnOddZero(t *testing.T) {
	for _, a := range []api.Ed{zero, half} {
		b := plainBytes(a)
		b[0] |= 1 << 7
		refuses(t, b)
	}
}

// P7.4, R3: a Y that isn't below R, though there is a point of its rest.
func TestReadOfGreatYs(t *testing.T) {
	for _, a := range points() {
		for k := uint64(1); k < 31; k++ {
			refuses(t, plainBytes(api.Ed{X: a.X, Y: a.Y + k*api.R}))
		}
	}
	for _, n := range []uint64{api.R, api.R + 1, 1 << 59, 1 << 62, 1<<63 - 1, 1<<63 + api.R, 1<<63 + api.R + 1, math.MaxUint64} {
		refuses(t, binary.BigEndian.AppendUint64(nil, n))
	}
}

// P7.4, R3: of about every other Y there is no point.
func TestReadOfYsOfNoPoint(t *testing.T) {
	none := 0
	for y := range uint64(200) {
		for _, y := range []uint64{y, api.R - 1 - y} {
			want, ok := at(y)
			if !ok {
				none++
				refuses(t, plainBytes(api.Ed{Y: y}))
				refuses(t, plainBytes(api.Ed{X: 1, Y: y}))
			} else if got, err := edwards.Read(plainBytes(want)); got != want || err != nil {
				t.Errorf("Read of Y %d = %v, %v, want %v", y, got, err, want)
			}
		}
	}
	if none < 100 || none > 300 {
		t.Errorf("of 400 Ys %d have no point", none)
	}
}

// P7.4, R3
func TestReadOfOtherLengths(t *testing.T) {
	for _, whole := range [][]byte{plainBytes(gen), plainBytes(zero), plainBytes(quarter())} {
		for n := range len(whole) {
			refuses(t, whole[:n])
			refuses(t, whole[n+1:])
		}
		refuses(t, append(slices.Clone(whole), 0))
		refuses(t, append([]byte{0}, whole...))
		refuses(t, append(slices.Clone(whole), whole...))
	}
	refuses(t, nil)
	refuses(t, []byte{})
	for n := range 40 {
		if n != 8 {
			refuses(t, make([]byte, n))
		}
		refuses(t, bytes.Repeat([]byte{math.MaxUint8}, n))
	}
}

// P7.4: no two bytes are of one point.
func TestReadIsUndoneByWrite(t *testing.T) {
	draw := rand.New(rand.NewSource(74))
	for _, a := range points() {
		b := plainBytes(a)
		for bit := range 8 * len(b) {
			turned := slices.Clone(b)
			turned[bit/8] ^= 1 << (bit % 8)
			checkBack(t, turned)
		}
	}
	for range 2000 {
		checkBack(t, binary.BigEndian.AppendUint64(nil, draw.Uint64()))
		checkBack(t, binary.BigEndian.AppendUint64(nil, draw.Uint64()%api.R))
	}
}

// checkBack holds a point that is read, if one is, against its bytes.
func checkBack(t *testing.T, b []byte) {
	t.Helper()
	a, err := edwards.Read(b)
	if err != nil {
		refuses(t, b)
		return
	}
	if back, err := edwards.Write(a); err != nil || !bytes.Equal(back, b) || !fits(a) || a.X >= api.R || a.Y >= api.R {
		t.Errorf("Read(%x) = %v, whose bytes are %x, %v", b, a, back, err)
	}
}

// P7.5: the bytes that are read stay, also behind their end, and what is
// written is new each time.
func TestNothingIsChangedOrKept(t *testing.T) {
	b := append(plainBytes(gen), 1, 2, 3)
	before := slices.Clone(b)
	if a, err := edwards.Read(b[:8]); err != nil || a != gen || !bytes.Equal(b, before) {
		t.Errorf("Read: %v, %v; the bytes are %x, want %x", a, err, b, before)
	}
	if _, err := edwards.Read(b); err != api.ErrForm || !bytes.Equal(b, before) {
		t.Errorf("Read: %v; the bytes are %x, want %x", err, b, before)
	}
	for _, a := range []api.Ed{zero, gen} {
		first, _ := edwards.Write(a)
		for k := range first {
			first[k] = math.MaxUint8
		}
		if second, err := edwards.Write(a); err != nil || !bytes.Equal(second, plainBytes(a)) {
			t.Errorf("Write tells %x, %v once its first answer was changed", second, err)
		}
	}
}
