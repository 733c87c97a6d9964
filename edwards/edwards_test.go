package edwards_test

import (
	"math"
	"math/rand"
	"testing"

	"obol/api"
	"obol/edwards"
)

// factors are edges of orders and words, and some drawn by a fixed seed.
func factors() []uint64 {
	l := []uint64{0, 1, 2, 3, 4, 5, 7, 8, 15, 16, 255, api.S - 2, api.S - 1, api.S, api.S + 1, 2 * api.S, 2*api.S + 1,
		4*api.S - 1, 4 * api.S, 4*api.S + 1, api.R - 1, api.R, api.R + 1, 1 << 32, 1 << 62, 1 << 63, 1<<63 + 1,
		math.MaxUint64 - 1, math.MaxUint64}
	draw := rand.New(rand.NewSource(72))
	for range 10 {
		l = append(l, draw.Uint64(), draw.Uint64()%api.S)
	}
	return l
}

// P7.1
func TestIs(t *testing.T) {
	for _, a := range points() {
		if !edwards.Is(a) {
			t.Errorf("Is(%v) = false", a)
		}
		if !fits(a) {
			t.Errorf("%v is no point: the test is at fault", a)
		}
	}
	for _, a := range others() {
		if edwards.Is(a) {
			t.Errorf("Is(%v) = true", a)
		}
	}
}

// P7.1: of numbers below R the curve alone decides.
func TestIsOfDrawnNumbers(t *testing.T) {
	draw := rand.New(rand.NewSource(71))
	for range 2000 {
		a := api.Ed{X: draw.Uint64() % api.R, Y: draw.Uint64() % api.R}
		if p, ok := at(a.Y); ok {
			a.X = p.X + draw.Uint64()%2
		}
		if got, want := edwards.Is(a), fits(a); got != want {
			t.Errorf("Is(%v) = %v, want %v", a, got, want)
		}
	}
}

// P7.1: 0 is one; the points of orders 2 and 4, and all sums with those,
// aren't; nor is what is no point, though it counts as 0 elsewhere.
func TestIn(t *testing.T) {
	four := quarter()
	for _, a := range []api.Ed{zero, gen, opposite(gen), plainMultiple(gen, 12345)} {
		if !edwards.In(a) {
			t.Errorf("In(%v) = false", a)
		}
	}
	for _, a := range []api.Ed{half, four, opposite(four), plainSum(gen, half), plainSum(gen, four)} {
		if edwards.In(a) {
			t.Errorf("In(%v) = true", a)
		}
	}
	for _, a := range points() {
		if got, want := edwards.In(a), plainMultiple(a, api.S) == zero; got != want {
			t.Errorf("In(%v) = %v, want %v", a, got, want)
		}
		if four := plainMultiple(a, 4); !edwards.In(four) {
			t.Errorf("In(%v) = false, though it is four times a point", four)
		}
	}
	for _, a := range others() {
		if edwards.In(a) {
			t.Errorf("In(%v) = true, though it is no point", a)
		}
	}
}

// P7.1
func TestGen(t *testing.T) {
	if got := edwards.Gen(); got != (api.Ed{X: 223588670687113535, Y: 82055451961885530}) {
		t.Errorf("Gen() = %v", got)
	}
}

// P7.2: also of a point and itself, its opposite, and 0.
func TestAdd(t *testing.T) {
	l := points()
	for _, a := range l {
		for _, b := range l {
			if got, want := edwards.Add(a, b), plainSum(a, b); got != want {
				t.Fatalf("Add(%v, %v) = %v, want %v", a, b, got, want)
			}
		}
	}
}

// P7.2: what makes 0, and 0 is its own.
func TestNeg(t *testing.T) {
	for _, a := range points() {
		got := edwards.Neg(a)
		if want := opposite(a); got != want {
			t.Errorf("Neg(%v) = %v, want %v", a, got, want)
		}
		if sum := edwards.Add(a, got); sum != zero {
			t.Errorf("%v and its opposite make %v", a, sum)
		}
		if back := edwards.Neg(got); back != a {
			t.Errorf("Neg(Neg(%v)) = %v", a, back)
		}
	}
}

// P7.2: the factor counts as it is.
func TestMul(t *testing.T) {
	for _, a := range points() {
		for _, k := range factors() {
			if got, want := edwards.Mul(a, k), plainMultiple(a, k); got != want {
				t.Fatalf("Mul(%v, %d) = %v, want %v", a, k, got, want)
			}
		}
	}
}

// P7.2 by its own words: k times is added k times.
func TestMulIsAddedSoOften(t *testing.T) {
	for _, a := range points() {
		total := zero
		for k := range uint64(40) {
			if got := edwards.Mul(a, k); got != total {
				t.Fatalf("Mul(%v, %d) = %v, want %v", a, k, got, total)
			}
			total = edwards.Add(total, a)
		}
	}
}

// P7.1, P7.2: what is no point counts as 0.
func TestOthersCountAsZero(t *testing.T) {
	for _, a := range others() {
		if got := edwards.Neg(a); got != zero {
			t.Errorf("Neg(%v) = %v, want 0, 1", a, got)
		}
		for _, k := range factors() {
			if got := edwards.Mul(a, k); got != zero {
				t.Errorf("Mul(%v, %d) = %v, want 0, 1", a, k, got)
			}
		}
		for _, b := range []api.Ed{zero, half, quarter(), gen} {
			if got := edwards.Add(a, b); got != b {
				t.Errorf("Add(%v, %v) = %v, want %v", a, b, got, b)
			}
			if got := edwards.Add(b, a); got != b {
				t.Errorf("Add(%v, %v) = %v, want %v", b, a, got, b)
			}
		}
		for _, b := range others() {
			if got := edwards.Add(a, b); got != zero {
				t.Errorf("Add(%v, %v) = %v, want 0, 1", a, b, got)
			}
		}
	}
}

// P7.2: multiples of the first point that were worked out beforehand, outside
// the project.
func TestMulOfGenWrittenOut(t *testing.T) {
	cases := map[uint64]api.Ed{
		0:               {X: 0, Y: 1},
		1:               {X: 223588670687113535, Y: 82055451961885530},
		2:               {X: 215313104986860010, Y: 182547805408397888},
		3:               {X: 137793467179215122, Y: 116235547721284618},
		123456789012345: {X: 254010211003876688, Y: 27747679375924568},
		api.S - 1:       {X: 64641705600650946, Y: 82055451961885530},
		math.MaxUint64:  {X: 77253286062322434, Y: 179816561061831925},
	}
	for k, want := range cases {
		if got := edwards.Mul(edwards.Gen(), k); got != want {
			t.Errorf("Mul(Gen(), %d) = %v, want %v", k, got, want)
		}
	}
}

// P7.6: sums are points, in any order, and multiples go with sums.
func TestPointsAreAGroup(t *testing.T) {
	l := points()
	draw := rand.New(rand.NewSource(76))
	for range 2000 {
		a, b, c := l[draw.Intn(len(l))], l[draw.Intn(len(l))], l[draw.Intn(len(l))]
		sum := edwards.Add(a, b)
		if !edwards.Is(sum) {
			t.Fatalf("Add(%v, %v) = %v is no point", a, b, sum)
		}
		if sum != edwards.Add(b, a) {
			t.Fatalf("Add of %v and %v hangs on the order", a, b)
		}
		if edwards.Add(sum, c) != edwards.Add(a, edwards.Add(b, c)) {
			t.Fatalf("Add of %v, %v and %v hangs on the order", a, b, c)
		}
		k, j := draw.Uint64()>>1, draw.Uint64()>>1
		if edwards.Mul(a, k+j) != edwards.Add(edwards.Mul(a, k), edwards.Mul(a, j)) {
			t.Fatalf("%v, %d and %d times", a, k, j)
		}
		if edwards.Mul(sum, k) != edwards.Add(edwards.Mul(a, k), edwards.Mul(b, k)) {
			t.Fatalf("%v and %v, %d times", a, b, k)
		}
	}
}

// P7.6: a point that is 0 only 4 S times has as many multiples; twice as many
// points would be more than R + 1 + 2 roots of R, which no such curve has.
func TestThereAreFourSPoints(t *testing.T) {
	whole := edwards.Add(edwards.Gen(), quarter())
	if got := edwards.Mul(whole, 4*api.S); got != zero {
		t.Errorf("4 S times %v is %v", whole, got)
	}
	for _, k := range []uint64{4, 2 * api.S} {
		if edwards.Mul(whole, k) == zero {
			t.Errorf("%d times %v is 0", k, whole)
		}
	}
	for _, a := range points() {
		if got := edwards.Mul(a, 4*api.S); got != zero {
			t.Errorf("4 S times %v is %v", a, got)
		}
	}
}

// The chapter's examples.
func TestExamples(t *testing.T) {
	g := edwards.Gen()
	if got := edwards.Add(g, edwards.Neg(g)); got != (api.Ed{X: 0, Y: 1}) {
		t.Errorf("Add(Gen(), Neg(Gen())) = %v", got)
	}
	if got := edwards.Mul(g, api.S); got != (api.Ed{X: 0, Y: 1}) {
		t.Errorf("Mul(Gen(), S) = %v", got)
	}
}
