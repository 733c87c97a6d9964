package blake_test

import (
	"bytes"
	"encoding/binary"
	"encoding/hex"
	"math"
	"slices"
	"strings"
	"testing"

	"obol/api"
	"obol/blake"
)

// message are n bytes, of which no two in a row of 256 are alike.
func message(n int) []byte {
	b := make([]byte, n)
	for i := range b {
		b[i] = byte(7*i + 3)
	}
	return b
}

// persons are of each length from 0 to 8, some with bytes that are no text.
func persons() []string {
	l := []string{"", "\x00", "\xff", "\x00x", strings.Repeat("\x00", 8), strings.Repeat("\xff", 8), "\x00\x00\x00\x00\x00\x00\x00\x01", "äöüß"}
	for n := 1; n <= 8; n++ {
		l = append(l, "obolsign"[:n])
	}
	return l
}

// lengths are around the ends of blocks.
func lengths() []int {
	return []int{0, 1, 3, 4, 55, 63, 64, 65, 127, 128, 129, 191, 192, 193, 1000}
}

// P5.2 in digests that no code of the project told; the first one is the
// chapter's example.
func TestSumInNumbers(t *testing.T) {
	cases := []struct {
		person string
		b      []byte
		want   string
	}{
		{"", []byte("abc"), "508c5e8c327c14e2e1a72ba34eeb452f37458b209ed63a294d999b4c86675982"},
		{"", message(0), "69217a3079908094e11121d042354a7c1f55b6482ca1a51e1b250dfd1ed0eef9"},
		{"", message(1), "a28ac19d6bcbe2cd1d7de183485768d598e996b07889b9b11f418cb1b4a4fb0d"},
		{"", message(63), "de27df0e375d83c49f1af9ca8270f9f2fe7b70bf800fc01672db0e9746021ebf"},
		{"", message(64), "5377e4ff957bda4d4535f4879876b71a61056c4cec31e78397c66ec47a86a130"},
		{"", message(65), "19b1b26fba093f4a670d8913e1b71cbb2916dfa701018cc6b05785c966593374"},
		{"", message(127), "6846f99493436241d0a6f289c9a911b1d0f4860db8f2b5df5295ffd37d03a3c4"},
		{"", message(128), "83470c75afa23d90cd7659906e4b47daa278131fbb225241dd37a40fd5355ac7"},
		{"", message(129), "26fd8892ab0a5f12d4acbff1efd7dcd92b99e2d377f888f07e3cb81b232b11cf"},
		{"", message(1000), "02a016193469710efadf8fb005ca19b509331cb847df5598cc0794bded669681"},
		{"obol", message(0), "de4dbb9194fedacc994353648ab86d90d2f23854f23d6829733e3992c170976d"},
		{"obol", message(3), "14f2dbe1f585f233f0f23aa03871e9eec3490e6f9ea4d750bf46735cac00d8d9"},
		{"obolsign", message(64), "f90acee67a07143fe572a34c15f0b37ec1a0a1bdacd7b52f3b62637176059bbc"},
		{"schnorr", message(128), "b68bda0e3c6c365ae0cd6f2c53e945d938f3218e6724c62efc4fd9de11c0b678"},
		{"notes", message(200), "0fed753ff5a6b4c31f04c66d7d7dae4ae025bd25e5f976760f8fcf80d6ca73e2"},
		{"\x00\x00\x00\x00\x00\x00\x00\x01", message(64), "e0d07aa11d9f98ef33d90e7ffa42429ed87746f976d770524850f468fbaedb67"},
	}
	for _, c := range cases {
		if got, err := blake.Sum(c.person, c.b); hex.EncodeToString(got) != c.want || err != nil {
			t.Errorf("Sum(%q, %d bytes) = %x, %v, want %s", c.person, len(c.b), got, err, c.want)
		}
	}
}

// P5.2: the digest of 300 digests, of all lengths below 300 and persons of all
// lengths, in a number that no code of the project told.
func TestSumOfSums(t *testing.T) {
	var all []byte
	for n := range 300 {
		digest, err := blake.Sum(string(message(n%9)), message(n))
		if err != nil {
			t.Fatal(err)
		}
		all = append(all, digest...)
	}
	const want = "5acad21118917ee148535f1305a9ab64b01cc7f1a69ae0c3711668a461f67ccc"
	if got, err := blake.Sum("", all); hex.EncodeToString(got) != want || err != nil {
		t.Errorf("the digest is %x, %v, want %s", got, err, want)
	}
}

// P5.2: every person and every length, by the chapter to the letter.
func TestSum(t *testing.T) {
	for _, person := range persons() {
		for _, n := range lengths() {
			got, err := blake.Sum(person, message(n))
			if want := plainDigest(person, message(n)); !bytes.Equal(got, want) || err != nil {
				t.Errorf("Sum(%q, %d bytes) = %x, %v, want %x", person, n, got, err, want)
			}
		}
	}
}

// P5.2: bytes 00 at the end are bytes, and not what fills the last block.
func TestSumCountsBytes(t *testing.T) {
	seen := map[string]int{}
	for n := range 130 {
		digest, err := blake.Sum("", make([]byte, n))
		if err != nil {
			t.Fatal(err)
		}
		seen[string(digest)]++
	}
	if len(seen) != 130 {
		t.Errorf("%d digests, want 130", len(seen))
	}
}

// P5.2: no bytes are told as nil or as empty.
func TestSumOfNoBytes(t *testing.T) {
	for _, person := range persons() {
		want := plainDigest(person, nil)
		for _, b := range [][]byte{nil, {}} {
			if got, err := blake.Sum(person, b); !bytes.Equal(got, want) || err != nil {
				t.Errorf("Sum(%q, %#v) = %x, %v, want %x", person, b, got, err, want)
			}
		}
	}
}

// longPersons have more than 8 bytes: one has fewer runes, one ends in 00.
func longPersons() []string {
	return []string{"123456789", "obolsign\x00", strings.Repeat("\x00", 9), "äöüßé", strings.Repeat("x", 64), strings.Repeat("x", 1000)}
}

// P5.2, P5.3, R3: ErrLong itself, without a digest or a number.
func TestLongPersons(t *testing.T) {
	for _, person := range longPersons() {
		for _, b := range [][]byte{nil, message(3), message(200)} {
			if got, err := blake.Sum(person, b); len(got) != 0 || err != api.ErrLong {
				t.Errorf("Sum(%q, %x) = %x, %v, want none, ErrLong", person, b, got, err)
			}
			// R1: ErrLong is named ahead of ErrArg.
			for _, m := range []uint64{0, 1, 1000, math.MaxUint64} {
				if got, err := blake.Number(person, b, m); got != 0 || err != api.ErrLong {
					t.Errorf("Number(%q, %x, %d) = %d, %v, want 0, ErrLong", person, b, m, got, err)
				}
			}
		}
	}
}

// P5.3
func TestNumber(t *testing.T) {
	moduli := []uint64{1, 2, 3, 255, 256, 1000, 1 << 32, api.S, api.R, api.P, 1 << 63, math.MaxUint64 - 1, math.MaxUint64}
	for _, person := range persons() {
		for _, n := range lengths() {
			whole := binary.LittleEndian.Uint64(plainDigest(person, message(n))[:8])
			for _, m := range append(moduli, whole, whole-1, whole+1) {
				if got, err := blake.Number(person, message(n), m); got != whole%m || err != nil {
					t.Errorf("Number(%q, %d bytes, %d) = %d, %v, want %d", person, n, m, got, err, whole%m)
				}
			}
		}
	}
}

// P5.3 in numbers: of the chapter's example, the first 8 bytes turned round.
func TestNumberInNumbers(t *testing.T) {
	const whole = 0xe2147c328c5e8c50
	cases := []struct{ m, want uint64 }{
		{1, 0},
		{256, 0x50},
		{1 << 32, 0x8c5e8c50},
		{1000, whole % 1000},
		{api.R, whole % api.R},
		{whole, 0},
		{whole - 1, 1},
		{math.MaxUint64, whole},
	}
	for _, c := range cases {
		if got, err := blake.Number("", []byte("abc"), c.m); got != c.want || err != nil {
			t.Errorf("Number(abc, %d) = %d, %v, want %d", c.m, got, err, c.want)
		}
	}
}

// P5.3, R3: ErrArg itself, with 0.
func TestNumberByZero(t *testing.T) {
	for _, person := range persons() {
		for _, b := range [][]byte{nil, {}, message(3), message(64), message(200)} {
			if got, err := blake.Number(person, b, 0); got != 0 || err != api.ErrArg {
				t.Errorf("Number(%q, %x, 0) = %d, %v, want 0, ErrArg", person, b, got, err)
			}
		}
	}
}

// P5.4: the bytes stay, also behind their end.
func TestNothingIsChanged(t *testing.T) {
	whole := message(200)
	for n := range len(whole) {
		blake.Sum("obol", whole[:n])
		blake.Number("obol", whole[:n], 1000)
		blake.Number("obol", whole[:n], 0)
		blake.Sum("too long a person", whole[:n])
		if !bytes.Equal(whole, message(200)) {
			t.Fatalf("the bytes became %x", whole)
		}
	}
}

// P5.4: neither the bytes nor an answer are kept, and each answer is new.
func TestNothingIsKept(t *testing.T) {
	b := message(100)
	first, err := blake.Sum("obol", b)
	if err != nil {
		t.Fatal(err)
	}
	told := slices.Clone(first)
	clear(b)
	if !bytes.Equal(first, told) {
		t.Errorf("the answer became %x with the bytes", first)
	}
	blake.Sum("other", b)
	clear(first)
	if again, err := blake.Sum("obol", message(100)); !bytes.Equal(again, told) || err != nil {
		t.Errorf("told again it is %x, %v, and was %x", again, err, told)
	}
}

// P5.5, with every count of bytes 00 that there is room for.
func TestPersonWithZerosBehind(t *testing.T) {
	for _, person := range persons() {
		want, err := blake.Sum(person, message(70))
		if err != nil {
			t.Fatal(err)
		}
		number, _ := blake.Number(person, message(70), api.R)
		for longer := person; len(longer) <= 8; longer += "\x00" {
			if got, err := blake.Sum(longer, message(70)); !bytes.Equal(got, want) || err != nil {
				t.Errorf("Sum(%q) = %x, %v, want %x, as of %q", longer, got, err, want, person)
			}
			if got, err := blake.Number(longer, message(70), api.R); got != number || err != nil {
				t.Errorf("Number(%q) = %d, %v, want %d, as of %q", longer, got, err, number, person)
			}
		}
	}
}

// P5.2: persons that differ in more than bytes 00 behind have digests of their
// own; so a byte 00 ahead counts.
func TestPersonsAreToldApart(t *testing.T) {
	seen := map[string]string{}
	for _, person := range persons() {
		digest, err := blake.Sum(person, nil)
		if err != nil {
			t.Fatal(err)
		}
		name := strings.TrimRight(person, "\x00")
		if other, ok := seen[string(digest)]; ok && other != name {
			t.Errorf("%q and %q have one digest", name, other)
		}
		seen[string(digest)] = name
	}
}
