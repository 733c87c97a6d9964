package cube_test

import (
	"math"
	"slices"
	"testing"

	"obol/api"
	"obol/cube"
)

func checkTurn(t *testing.T, k, x, want uint64) {
	t.Helper()
	if got := cube.Turn(k, x); got != want {
		t.Errorf("Turn(%d, %d) = %d, want %d", k, x, got, want)
	}
	if got := cube.Back(k, want); got != x%api.R {
		t.Errorf("Back(%d, %d) = %d, want %d", k, want, got, x%api.R)
	}
}

func checkTwo(t *testing.T, a, b, want uint64) {
	t.Helper()
	if got := cube.Two(a, b); got != want {
		t.Errorf("Two(%d, %d) = %d, want %d", a, b, got, want)
	}
}

func checkMany(t *testing.T, l []uint64, want uint64) {
	t.Helper()
	if got := cube.Many(l); got != want {
		t.Errorf("Many(%d) = %d, want %d", l, got, want)
	}
}

// P10.1: worked out beforehand, outside the project. Some keys and numbers
// make a round's sum 0.
func TestTurnWrittenOut(t *testing.T) {
	for _, row := range [][3]uint64{
		{0, 0, 36211635275756329},
		{0, 1, 12213177308457634},
		{1, 0, 85783353763720043},
		{5, 9, 13736619041282323},
		{5, 0, 34827176406112384},
		{5, 1, 177753432676860817},
		{5, api.R - 1, 89394550428210596},
		{api.R - 1, api.R - 1, 196834479727344017},
		{api.R - 7, 0, 412229458497017},
		{0, api.R - 7, 1642697846655488},
		{144115188075855872, 205891132094649, 156803169615179414},
	} {
		checkTurn(t, row[0], row[1], row[2])
	}
}

// P10.1: worked out beforehand, outside the project.
func TestBackWrittenOut(t *testing.T) {
	for _, row := range [][3]uint64{
		{0, 0, 135434260654594840},
		{5, 0, 99621327086976319},
		{0, 1, 189746007064426619},
		{5, 5, 270005820783883586},
		{api.R - 1, api.R - 1, 20444285461281495},
		{150094635296999121, 59604644775390625, 185623383404032102},
	} {
		if got := cube.Back(row[0], row[1]); got != row[2] {
			t.Errorf("Back(%d, %d) = %d, want %d", row[0], row[1], got, row[2])
		}
	}
}

// P10.1: at all edges, also with keys and numbers that aren't below R.
func TestTurnAndBack(t *testing.T) {
	for _, k := range edges() {
		for _, x := range edges() {
			checkTurn(t, k, x, plainTurn(k, x))
			if y := cube.Back(k, x); y >= api.R || plainTurn(k, y) != x%api.R {
				t.Errorf("Back(%d, %d) = %d, which isn't below R, or is turned to %d", k, x, y, plainTurn(k, y))
			}
		}
	}
	l := drawn(101, 2000)
	for i, k := range l {
		x := l[len(l)-1-i]
		checkTurn(t, k, x, plainTurn(k, x))
		if y := cube.Back(k, x); y >= api.R || plainTurn(k, y) != x%api.R {
			t.Errorf("Back(%d, %d) = %d, which isn't below R, or is turned to %d", k, x, y, plainTurn(k, y))
		}
	}
}

// P10.2: worked out beforehand, outside the project.
func TestTwoWrittenOut(t *testing.T) {
	for _, row := range [][3]uint64{
		{0, 0, 36211635275756329},
		{0, 1, 12213177308457635},
		{1, 0, 85783353763720044},
		{1, 4, 270436182880961410},
		{2, 3, 108807817910395907},
		{3, 2, 27180551091051139},
		{api.R - 1, api.R - 1, 196834479727344015},
		{api.R - 1, 1, 227026345001794088},
		{144115188075855872, 205891132094649, 12893872535365454},
		{1, 204106994497830905, 3},
	} {
		checkTwo(t, row[0], row[1], row[2])
	}
}

// P10.2: at all edges, also with numbers that aren't below R.
func TestTwo(t *testing.T) {
	for _, a := range edges() {
		for _, b := range edges() {
			checkTwo(t, a, b, plainTwo(a, b))
		}
	}
	l := drawn(102, 2000)
	for i, a := range l {
		checkTwo(t, a, l[len(l)-1-i], plainTwo(a, l[len(l)-1-i]))
	}
}

// P10.2: worked out beforehand, outside the project. A list with a 0 more is
// another list, and so is one in another order.
func TestManyWrittenOut(t *testing.T) {
	rising := make([]uint64, 1000)
	for i := range rising {
		rising[i] = uint64(i)
	}
	for _, row := range []struct {
		l    []uint64
		hash uint64
	}{
		{nil, 0},
		{[]uint64{0}, 85783353763720044},
		{[]uint64{4}, 270436182880961410},
		{[]uint64{0, 0}, 72286852091087211},
		{[]uint64{0, 0, 0}, 148328686125195974},
		{[]uint64{1, 2}, 158424632962887317},
		{[]uint64{2, 1}, 263049459725688692},
		{[]uint64{1, 2, 3}, 197937548991725117},
		{[]uint64{api.R - 1}, 223493341835253312},
		{slices.Repeat([]uint64{api.R - 1}, 5), 56259542813542999},
		{rising[1:21], 45911761791099595},
		{[]uint64{144115188075855872, 205891132094649, 59604644775390625}, 261002033478417711},
		{rising, 153039701022597211},
	} {
		checkMany(t, row.l, row.hash)
	}
}

// P10.2: of lists of all lengths up to 40, and of long ones.
func TestMany(t *testing.T) {
	l := append(edges(), drawn(103, 3000)...)
	for _, size := range []int{64, 255, 256, 257, 1000, len(l)} {
		checkMany(t, l[:size], plainMany(l[:size]))
	}
	for size := range 40 {
		for from := 0; from+size <= len(l); from += 97 {
			checkMany(t, l[from:from+size], plainMany(l[from:from+size]))
		}
	}
}

// P10.1, P10.2: numbers count as their rests by R, and not by S or P, or as
// words.
func TestRestsCount(t *testing.T) {
	const most = math.MaxUint64 / api.R
	for _, n := range []uint64{0, 1, 7, api.R - 344, api.R - 1} {
		for _, times := range []uint64{1, 2, 31, 32, most - 1} {
			m := n + times*api.R
			checkTurn(t, m, 5, cube.Turn(n, 5))
			checkTurn(t, 5, m, cube.Turn(5, n))
			checkTurn(t, m, m, cube.Turn(n, n))
			if got, want := cube.Back(m, m), cube.Back(n, n); got != want {
				t.Errorf("Back(%d, %d) = %d, want %d", m, m, got, want)
			}
			checkTwo(t, m, m, cube.Two(n, n))
			checkMany(t, []uint64{m, 5, m}, cube.Many([]uint64{n, 5, n}))
		}
		for _, other := range []uint64{n + api.S, n + api.P, n ^ 1<<63} {
			if cube.Turn(5, n) == cube.Turn(5, other) || cube.Turn(n, 5) == cube.Turn(other, 5) {
				t.Errorf("%d counts as %d", other, n)
			}
		}
	}
}

// P10.4: also what stands behind the list's end stays, and a call tells the
// same again, whatever was done in between.
func TestManyChangesAndKeepsNothing(t *testing.T) {
	all := []uint64{3 + api.R, math.MaxUint64, 7, 8}
	before := slices.Clone(all)
	first := cube.Many(all[:2])
	if !slices.Equal(all, before) {
		t.Errorf("the list is %d, want %d", all, before)
	}
	all[0], all[1] = 1, 2
	if cube.Many(all[:2]) == first || cube.Many(before[:2]) != first {
		t.Error("Many tells something that was kept")
	}
}

// P10.5: by one key no two numbers are turned to one, and none is left out.
func TestByOneKeyNoTwoAreTurnedToOne(t *testing.T) {
	for _, k := range []uint64{0, 1, 5, api.R - 1, api.R - 7, math.MaxUint64} {
		from := map[uint64]uint64{}
		for i := range uint64(3000) {
			for _, x := range []uint64{i, api.R - 1 - i} {
				y := cube.Turn(k, x)
				if other, ok := from[y]; ok {
					t.Errorf("%d and %d are turned to %d by %d", other, x, y, k)
				}
				from[y] = x
				if back := cube.Back(k, y); back != x {
					t.Errorf("Back(%d, %d) = %d, want %d", k, y, back, x)
				}
				if again := cube.Turn(k, cube.Back(k, x)); again != x {
					t.Errorf("%d turned back and forth by %d is %d", x, k, again)
				}
			}
		}
	}
}

// The chapter's examples.
func TestExamples(t *testing.T) {
	checkMany(t, nil, 0)
	checkMany(t, []uint64{}, 0)
	if got := cube.Back(5, cube.Turn(5, 9)); got != 9 {
		t.Errorf("Back(5, Turn(5, 9)) = %d", got)
	}
}
