package edwards_test

import (
	"math"
	"strings"
	"testing"

	"obol/api"
	"obol/edwards"
)

// P7.3: found points that were worked out beforehand, outside the project.
func TestFindWrittenOut(t *testing.T) {
	cases := []struct {
		tag  string
		n    uint64
		want api.Ed
	}{
		{"x", 5, api.Ed{X: 7580246441082697, Y: 51800498900211776}},
		{"x", 0, api.Ed{X: 35978997478355568, Y: 192986429797335005}},
		{"", 0, api.Ed{X: 112295141116369563, Y: 4981346257828397}},
		{"pedersen", 0, api.Ed{X: 90204396999147564, Y: 84347041657452216}},
		{"pedersen", 1, api.Ed{X: 217235644390756201, Y: 168927567435269719}},
		{"pedersen", 16, api.Ed{X: 159252400780177562, Y: 190958774730599680}},
		{"12345678", math.MaxUint64, api.Ed{X: 205576297020500661, Y: 155043790330416178}},
		{"\x00\xff", 1, api.Ed{X: 207313119788975648, Y: 111398867098524890}},
		{"é", 7, api.Ed{X: 230701532629794854, Y: 170006936768261589}},
	}
	for _, c := range cases {
		if got, err := edwards.Find(c.tag, c.n); got != c.want || err != nil {
			t.Errorf("Find(%q, %d) = %v, %v, want %v", c.tag, c.n, got, err, c.want)
		}
	}
}

// P7.3, P7.6: the first k that tells a point, which is of order S and isn't 0.
func TestFind(t *testing.T) {
	seen := map[api.Ed]bool{}
	for _, tag := range []string{"", "a", "notes", "schnorr", "pedersen", "\xff\xff\xff\xff\xff\xff\xff\xff"} {
		for n := range uint64(40) {
			for _, n := range []uint64{n, math.MaxUint64 - n} {
				got, err := edwards.Find(tag, n)
				if want, _ := plainFind(tag, n); got != want || err != nil {
					t.Fatalf("Find(%q, %d) = %v, %v, want %v", tag, n, got, err, want)
				}
				if !edwards.In(got) || got == zero || seen[got] {
					t.Errorf("Find(%q, %d) = %v, which is 0, not of order S, or was there already", tag, n, got)
				}
				seen[got] = true
			}
		}
	}
}

// P7.3: where many ks tell no point.
func TestFindLate(t *testing.T) {
	for n, late := range map[uint64]uint64{7: 4, 46: 5, 270: 9, 3351: 11, 8715: 13, 65025: 16, 121065: 18} {
		want, k := plainFind("", n)
		if got, err := edwards.Find("", n); got != want || err != nil || k != late {
			t.Errorf("Find of %d = %v, %v, want %v, by k = %d", n, got, err, want, k)
		}
	}
}

// P7.3, R3: 8 bytes are not too many; characters are not bytes.
func TestFindByLongTags(t *testing.T) {
	for _, n := range []uint64{0, 5, math.MaxUint64} {
		for size := 9; size < 80; size++ {
			refusesTag(t, strings.Repeat("a", size), n)
			refusesTag(t, strings.Repeat("\x00", size), n)
		}
		refusesTag(t, "éééé1", n)
		refusesTag(t, strings.Repeat("long", 10000), n)
		for size := range 9 {
			if _, err := edwards.Find(strings.Repeat("a", size), n); err != nil {
				t.Errorf("Find by a tag of %d bytes: %v", size, err)
			}
		}
		if _, err := edwards.Find("éééé", n); err != nil {
			t.Errorf("Find by a tag of 8 bytes: %v", err)
		}
	}
}

func refusesTag(t *testing.T, tag string, n uint64) {
	t.Helper()
	if got, err := edwards.Find(tag, n); got != (api.Ed{}) || err != api.ErrLong {
		t.Errorf("Find by a tag of %d bytes = %v, %v, want the zero value, ErrLong", len(tag), got, err)
	}
}
