package cube_test

import (
	"math"
	"slices"
	"testing"

	"obol/api"
	"obol/cube"
)

// found are lists with one hash, which were searched for outside the project:
// a hash of two has degree 27, so that its roots can be found.
func found() []struct {
	a, b []uint64
	place
} {
	type row = struct {
		a, b []uint64
		place
	}
	return []row{
		// Another number by the same h.
		{[]uint64{0}, []uint64{178727586623208681}, place{1, 0, 1, 178727586623208681}},
		{[]uint64{2}, []uint64{274021809343503317}, place{1, 2, 1, 274021809343503317}},
		{[]uint64{2}, []uint64{21718805316999060}, place{1, 2, 1, 21718805316999060}},
		// At the end neither h nor the number is the same.
		{[]uint64{1, 5}, []uint64{101, 42487766033153767},
			place{51908943452100036, 5, 11841750900940233, 42487766033153767}},
		// At the end the number is the same, and h isn't.
		{[]uint64{4, 5}, []uint64{68570116210098446, 5},
			place{3807052731541553, 5, 190883051991221772, 5}},
		// The same behind the clash.
		{[]uint64{0, 9}, []uint64{60200335568631901, 9}, place{2, 0, 2, 60200335568631901}},
		{[]uint64{0, 7, 8}, []uint64{68912247585950451, 7, 8}, place{3, 0, 3, 68912247585950451}},
		{[]uint64{2, 6, 7, 8}, []uint64{1002, 44821880708085255, 7, 8},
			place{181424355396865524, 6, 184601737299610608, 44821880708085255}},
		// Two clashes, of which the later one is told.
		{[]uint64{0, 77, 1, 9}, []uint64{77752691918789419, 77, 73157241724218463, 9},
			place{62810365219987187, 1, 62810365219987187, 73157241724218463}},
	}
}

func checkClash(t *testing.T, a, b []uint64, want place) {
	t.Helper()
	hA, nA, hB, nB, err := cube.Clash(a, b)
	if got := (place{hA, nA, hB, nB}); got != want || err != nil {
		t.Errorf("Clash(%d, %d) = %v, %v, want %v", a, b, got, err, want)
	}
}

func checkNoClash(t *testing.T, a, b []uint64) {
	t.Helper()
	hA, nA, hB, nB, err := cube.Clash(a, b)
	if got := (place{hA, nA, hB, nB}); got != (place{}) || err != api.ErrArg {
		t.Errorf("Clash(%d, %d) = %v, %v, want zeros, ErrArg", a, b, got, err)
	}
}

// P10.3: the place, told in both orders of the lists.
func TestClashWrittenOut(t *testing.T) {
	for _, row := range found() {
		checkClash(t, row.a, row.b, row.place)
		checkClash(t, row.b, row.a, place{row.hB, row.place.b, row.hA, row.place.a})
		if want, ok := plainClash(row.a, row.b); !ok || want != row.place {
			t.Errorf("the place of %d and %d is %v, %v, want %v", row.a, row.b, want, ok, row.place)
		}
	}
}

// P10.3: numbers are told below R, and are the same if their rests are.
func TestClashOfRests(t *testing.T) {
	raise := func(l []uint64, times uint64) []uint64 {
		raised := slices.Clone(l)
		for i := range raised {
			raised[i] += times * api.R
		}
		return raised
	}
	for _, row := range found() {
		for _, times := range []uint64{1, 2, 62} {
			checkClash(t, raise(row.a, times), row.b, row.place)
			checkClash(t, row.a, raise(row.b, times), row.place)
			checkClash(t, raise(row.a, times), raise(row.b, times), row.place)
			checkNoClash(t, row.a, raise(row.a, times))
			checkNoClash(t, raise(row.b, times), row.b)
		}
	}
}

// P10.3: a clash stays where it is, whatever comes behind it, as long as that
// is the same in both.
func TestClashAheadOfMore(t *testing.T) {
	tail := drawn(104, 20)
	a, b := []uint64{0, 7, 8}, []uint64{68912247585950451, 7, 8}
	for _, n := range tail {
		a[1], b[1] = n, n
		a[2], b[2] = n>>1, n>>1+api.R
		checkClash(t, a, b, place{3, 0, 3, 68912247585950451})
		b[2] = n>>1 + 1
		checkNoClash(t, a, b)
	}
}

// P10.3: lists that are the same, or that haven't one hash.
func TestNoClash(t *testing.T) {
	l := edges()
	for size := range len(l) {
		same := slices.Clone(l[:size])
		checkNoClash(t, l[:size], same)
		checkNoClash(t, l[:size], l[:size])
		for i := range same {
			same[i]++
			checkNoClash(t, l[:size], same)
			same[i]--
		}
	}
	for _, row := range found() {
		for _, n := range []uint64{0, 1, math.MaxUint64} {
			checkNoClash(t, append(row.a, n), append(row.b, n+1))
		}
		last := len(row.a) - 1
		row.a[last]++
		checkNoClash(t, row.a, row.b)
	}
	checkNoClash(t, []uint64{1, 2}, []uint64{2, 1})
}

// P10.3: lists of other lengths, though they have one hash, or though they have
// one as far as the shorter one goes.
func TestClashOfOtherLengths(t *testing.T) {
	none := []uint64{0, 222835835902036662}
	checkMany(t, none, 0)
	four := []uint64{1, 267958333965922093}
	checkMany(t, four, cube.Many([]uint64{4}))
	checkTwo(t, 2, 92860962912274385, cube.Two(1, 1))
	for _, row := range [][2][]uint64{
		{nil, none}, {{}, none}, {{4}, four}, {{1}, {92860962912274385, 5}}, {nil, {0}}, {{0}, {0, 0}}, {{1, 2}, {1, 2, 3}}, {{3}, {1, 2, 3}},
	} {
		checkNoClash(t, row[0], row[1])
		checkNoClash(t, row[1], row[0])
	}
	checkNoClash(t, nil, nil)
	checkNoClash(t, nil, []uint64{})
}

// P10.4
func TestClashChangesAndKeepsNothing(t *testing.T) {
	for _, row := range found() {
		a, b := slices.Clone(row.a), slices.Clone(row.b)
		a[0] += api.R
		beforeA, beforeB := slices.Clone(a), slices.Clone(b)
		checkClash(t, a, b, row.place)
		checkNoClash(t, a, a)
		checkClash(t, a, b, row.place)
		if !slices.Equal(a, beforeA) || !slices.Equal(b, beforeB) {
			t.Errorf("the lists are %d and %d, want %d and %d", a, b, beforeA, beforeB)
		}
	}
}

// P10.5: what Clash tells are two pairs with one hash that aren't the same.
func TestClashTellsTwoPairsWithOneHash(t *testing.T) {
	for _, row := range found() {
		hA, a, hB, b, err := cube.Clash(row.a, row.b)
		if err != nil || hA == hB && a == b || cube.Two(hA, a) != cube.Two(hB, b) {
			t.Errorf("Clash(%d, %d) = %d, %d, %d, %d, %v", row.a, row.b, hA, a, hB, b, err)
		}
	}
}
