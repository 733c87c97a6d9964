package pedersen_test

import (
	"math"
	"math/rand"
	"slices"
	"testing"

	"obol/api"
	"obol/edwards"
	"obol/modular"
	"obol/pedersen"
)

var zero = api.Ed{Y: 1}

// opening is what a commitment is made of.
type opening struct {
	values []uint64
	blind  uint64
}

// written are openings whose commitments were worked out beforehand, outside
// the project.
func written() []struct {
	opening
	c api.Ed
} {
	type row = struct {
		opening
		c api.Ed
	}
	const most = math.MaxUint64
	rising := []uint64{1, 2, 3, 4, 5, 6, 7, 8, 9, 10, 11, 12, 13, 14, 15, 16}
	last := append(make([]uint64, 15), 1)
	return []row{
		{opening{nil, 0}, zero},
		{opening{nil, 1}, api.Ed{X: 90204396999147564, Y: 84347041657452216}},
		{opening{nil, 5}, api.Ed{X: 248192687053144374, Y: 194947036019874089}},
		{opening{[]uint64{3}, 0}, api.Ed{X: 280212847319984906, Y: 136680176360817073}},
		{opening{[]uint64{3, 4}, 5}, api.Ed{X: 133168117988814810, Y: 2666070415288396}},
		{opening{[]uint64{4, 3}, 5}, api.Ed{X: 226756092169531421, Y: 113220918269696739}},
		{opening{make([]uint64, 16), 0}, zero},
		{opening{last, 0}, api.Ed{X: 159252400780177562, Y: 190958774730599680}},
		{opening{rising, 17}, api.Ed{X: 11199682541831017, Y: 181856766988655073}},
		{opening{[]uint64{api.S - 1}, api.S - 1}, api.Ed{X: 271585100847343670, Y: 102611919336072341}},
		{opening{slices.Repeat([]uint64{most}, 16), most}, api.Ed{X: 133999186230304714, Y: 14522673584591088}},
		{opening{[]uint64{1 << 32, 1 << 63, api.S + 1}, api.S}, api.Ed{X: 95426631574190214, Y: 153657198562011838}},
	}
}

// drawn are openings by a fixed seed, of each number of values that may be.
func drawn(draw *rand.Rand) []opening {
	var l []opening
	for size := range api.MaxValues + 1 {
		o := opening{make([]uint64, size), draw.Uint64()}
		for k := range o.values {
			o.values[k] = draw.Uint64() >> draw.Intn(64)
		}
		l = append(l, o)
	}
	return l
}

// commit is the chapter to the letter, upon the layer below.
func commit(o opening) api.Ed {
	total := zero
	for n, factor := range slices.Concat([]uint64{o.blind}, o.values) {
		base, err := edwards.Find("pedersen", uint64(n))
		if err != nil {
			panic(err)
		}
		total = edwards.Add(total, edwards.Mul(base, factor%api.S))
	}
	return total
}

func checkCommit(t *testing.T, o opening, want api.Ed) {
	t.Helper()
	if got, err := pedersen.Commit(o.values, o.blind); got != want || err != nil {
		t.Errorf("Commit(%d, %d) = %v, %v, want %v", o.values, o.blind, got, err, want)
	}
	if !pedersen.Opens(want, o.values, o.blind) {
		t.Errorf("Opens(%v, %d, %d) = false", want, o.values, o.blind)
	}
}

// P8.1: bases that were worked out beforehand, outside the project.
func TestBaseWrittenOut(t *testing.T) {
	for n, want := range map[uint64]api.Ed{
		0:              {X: 90204396999147564, Y: 84347041657452216},
		1:              {X: 217235644390756201, Y: 168927567435269719},
		2:              {X: 32189608033016994, Y: 111916969619976793},
		15:             {X: 36422032300100722, Y: 235269979488685368},
		16:             {X: 159252400780177562, Y: 190958774730599680},
		17:             {X: 56774781449793382, Y: 138281719014863251},
		1 << 32:        {X: 121243794439725181, Y: 273866816470360195},
		1 << 63:        {X: 159755376066172227, Y: 122672601322883886},
		math.MaxUint64: {X: 106852648450456294, Y: 141316807447720919},
	} {
		if got, err := pedersen.Base(n); got != want || err != nil {
			t.Errorf("Base(%d) = %v, %v, want %v", n, got, err, want)
		}
	}
}

// P8.1: of every place what Find tells, and another point of order S.
func TestBase(t *testing.T) {
	seen := map[api.Ed]uint64{}
	for n := range uint64(200) {
		for _, n := range []uint64{n, math.MaxUint64 - n, api.S + n} {
			got, err := pedersen.Base(n)
			want, wantErr := edwards.Find("pedersen", n)
			if got != want || err != wantErr {
				t.Errorf("Base(%d) = %v, %v, want %v, %v", n, got, err, want, wantErr)
			}
			if other, ok := seen[got]; ok || got == zero || !edwards.In(got) {
				t.Errorf("Base(%d) = %v, which is 0, not of order S, or the base of %d", n, got, other)
			}
			seen[got] = n
		}
	}
}

// P8.2
func TestCommitWrittenOut(t *testing.T) {
	for _, row := range written() {
		checkCommit(t, row.opening, row.c)
	}
}

// P8.2: of each number of values, up to 16.
func TestCommit(t *testing.T) {
	draw := rand.New(rand.NewSource(82))
	for range 5 {
		for _, o := range drawn(draw) {
			checkCommit(t, o, commit(o))
		}
	}
}

// P8.2: a value alone is told by the base of its place, the blind by that of 0.
func TestEachValueHasItsBase(t *testing.T) {
	for place := range uint64(api.MaxValues + 1) {
		base, err := pedersen.Base(place)
		if err != nil {
			t.Fatal(err)
		}
		for _, k := range []uint64{1, 2, 1000, api.S - 1} {
			o := opening{make([]uint64, api.MaxValues), 0}
			if place == 0 {
				o.blind = k
			} else {
				o.values[place-1] = k
			}
			checkCommit(t, o, edwards.Mul(base, k))
		}
	}
}

// P8.2: values and blinds count as their rests by S, not by R or as words.
func TestRestsCount(t *testing.T) {
	const times = math.MaxUint64 / api.S
	for _, n := range []uint64{0, 1, 5, api.S - 1} {
		want := commit(opening{[]uint64{n, 7, n}, n})
		for k := range uint64(times) {
			m := n + k*api.S
			checkCommit(t, opening{[]uint64{m, 7, n}, n}, want)
			checkCommit(t, opening{[]uint64{n, 7, m}, n}, want)
			checkCommit(t, opening{[]uint64{n, 7, n}, m}, want)
			checkCommit(t, opening{[]uint64{m, 7 + k*api.S, m}, m}, want)
		}
	}
	if c := commit(opening{[]uint64{5}, 5}); pedersen.Opens(c, []uint64{5 + api.R}, 5) || pedersen.Opens(c, []uint64{5}, 5+api.R) {
		t.Error("values or blinds count as their rests by R")
	}
}

// P8.2, R3: 16 values are not too many, 17 are, also where all are 0; and then
// they open nothing, not even what is told beside the error.
func TestMoreValuesThanMayBe(t *testing.T) {
	checkCommit(t, opening{make([]uint64, 16), 9}, commit(opening{nil, 9}))
	for _, size := range []int{17, 18, 32, 255, 256, 272, 65536, 65552, 1 << 20} {
		for _, blind := range []uint64{0, 9, math.MaxUint64} {
			values := make([]uint64, size)
			if got, err := pedersen.Commit(values, blind); got != (api.Ed{}) || err != api.ErrLong {
				t.Errorf("Commit of %d values = %v, %v, want the zero value, ErrLong", size, got, err)
			}
			for _, c := range []api.Ed{{}, zero, commit(opening{nil, blind})} {
				if pedersen.Opens(c, values, blind) {
					t.Errorf("Opens(%v, %d values) = true", c, size)
				}
			}
		}
	}
}

// P8.2: other values, in another order, at other places, or by another blind.
func TestOpensOnlyByItsOwn(t *testing.T) {
	c := commit(opening{[]uint64{3, 4}, 5})
	for _, o := range []opening{
		{nil, 0}, {nil, 5}, {[]uint64{3}, 5}, {[]uint64{4, 3}, 5}, {[]uint64{3, 4}, 4}, {[]uint64{3, 4}, 6},
		{[]uint64{3, 5}, 4}, {[]uint64{5, 4}, 3}, {[]uint64{2, 4}, 5}, {[]uint64{3, 4, 1}, 5}, {[]uint64{0, 3, 4}, 5},
		{[]uint64{3, 0, 4}, 5}, {[]uint64{api.S - 3, api.S - 4}, api.S - 5}, {[]uint64{3, 4}, 0}, {[]uint64{0, 0}, 0},
		{[]uint64{5, 3, 4}, 0}, {[]uint64{3, 4}, 5 + 1<<63},
	} {
		if pedersen.Opens(c, o.values, o.blind) {
			t.Errorf("Opens(%v, %d, %d) = true", c, o.values, o.blind)
		}
	}
	for _, values := range [][]uint64{{3, 4, 0}, {3, 4, api.S}, append([]uint64{3, 4}, make([]uint64, 14)...)} {
		if !pedersen.Opens(c, values, 5) {
			t.Errorf("Opens(%v, %d, 5) = false", c, values)
		}
	}
}

// P8.2: what isn't the commitment itself, though its numbers may have the same
// rests, or though it may be no point, which counts as 0 elsewhere.
func TestOpensOnlyItself(t *testing.T) {
	for _, row := range written() {
		c := row.c
		for _, other := range []api.Ed{
			{}, edwards.Neg(edwards.Gen()), {X: c.X + api.R, Y: c.Y}, {X: c.X, Y: c.Y + api.R},
			{X: c.X, Y: c.Y | 1<<63}, {X: api.R - c.X, Y: c.Y}, {X: c.X, Y: api.R - c.Y}, {X: c.Y, Y: c.X},
			{X: c.X + 1, Y: c.Y}, {X: c.X, Y: c.Y + 1}, {X: math.MaxUint64, Y: math.MaxUint64},
			edwards.Add(c, edwards.Gen()), edwards.Add(c, api.Ed{Y: api.R - 1}),
		} {
			if pedersen.Opens(other, row.values, row.blind) {
				t.Errorf("Opens(%v, %d, %d) = true", other, row.values, row.blind)
			}
		}
	}
}

// P8.3: also what stands behind the values' end stays, and a call tells the
// same again, whatever was done in between.
func TestNothingIsChangedOrKept(t *testing.T) {
	all := []uint64{3 + api.S, math.MaxUint64, 7, 8, 9}
	before := slices.Clone(all)
	first, err := pedersen.Commit(all[:2], 5)
	if opens := pedersen.Opens(first, all[:2], 5); err != nil || !opens || !slices.Equal(all, before) {
		t.Errorf("Commit: %v; Opens: %v; the values are %d, want %d", err, opens, all, before)
	}
	all[0], all[1] = 1, 2
	if other, err := pedersen.Commit(all[:2], 5); other == first || err != nil {
		t.Errorf("Commit tells %v, %v once the values were changed", other, err)
	}
	if again, err := pedersen.Commit(before[:2], 5); again != first || err != nil {
		t.Errorf("Commit = %v, %v, want %v as before", again, err, first)
	}
	long := slices.Repeat([]uint64{math.MaxUint64}, 17)
	_, err = pedersen.Commit(long, 5)
	if pedersen.Opens(first, long, 5) || err != api.ErrLong || !slices.Equal(long, slices.Repeat([]uint64{math.MaxUint64}, 17)) {
		t.Errorf("Commit: %v; the values are %d", err, long)
	}
}

// both does the same with the values of each place, and the blinds, by S;
// values that aren't there count as 0.
func both(op func(m, a, b uint64) uint64, o, p opening) opening {
	at := func(l []uint64, k int) uint64 {
		if k < len(l) {
			return l[k]
		}
		return 0
	}
	q := opening{make([]uint64, max(len(o.values), len(p.values))), op(api.S, o.blind, p.blind)}
	for k := range q.values {
		q.values[k] = op(api.S, at(o.values, k), at(p.values, k))
	}
	return q
}

// P8.4: the sum is the commitment to the sums, the difference that to the
// differences, and all commitments are of order S.
func TestCommitmentsAddUp(t *testing.T) {
	l := drawn(rand.New(rand.NewSource(84)))
	for _, row := range written() {
		l = append(l, row.opening)
	}
	made := make([]api.Ed, len(l))
	for k, o := range l {
		c, err := pedersen.Commit(o.values, o.blind)
		if err != nil || !edwards.In(c) {
			t.Errorf("Commit(%d, %d) = %v, %v, which isn't of order S", o.values, o.blind, c, err)
		}
		made[k] = c
	}
	for k := range l {
		for j := range l {
			checkCommit(t, both(modular.Add, l[k], l[j]), edwards.Add(made[k], made[j]))
			checkCommit(t, both(modular.Sub, l[k], l[j]), edwards.Add(made[k], edwards.Neg(made[j])))
		}
	}
}

// P8.4: two openings of one commitment, which were searched for outside the
// project (S is small enough for that). Their differences, times the bases,
// are 0.
func TestTwoOpeningsTellASumOfBases(t *testing.T) {
	o := opening{[]uint64{40767372049458194}, 21336735235921743}
	p := opening{[]uint64{29767993517980583}, 8362278535774273}
	c := api.Ed{X: 210012191119842913, Y: 124063368599830535}
	checkCommit(t, o, c)
	checkCommit(t, p, c)
	apart := both(modular.Sub, o, p)
	if apart.blind == 0 || apart.values[0] == 0 {
		t.Error("the openings are the same")
	}
	checkCommit(t, apart, zero)
	first, _ := pedersen.Base(0)
	second, _ := pedersen.Base(1)
	if sum := edwards.Add(edwards.Mul(first, apart.blind), edwards.Mul(second, apart.values[0])); sum != zero {
		t.Errorf("the sum of bases is %v", sum)
	}
}

// The chapter's example.
func TestExamples(t *testing.T) {
	for _, none := range [][]uint64{nil, {}} {
		if got, err := pedersen.Commit(none, 0); got != (api.Ed{X: 0, Y: 1}) || err != nil {
			t.Errorf("Commit(none, 0) = %v, %v, want 0, 1", got, err)
		}
	}
}
