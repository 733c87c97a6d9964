package curve_test

import (
	"math"
	"math/big"
	"math/rand"
	"testing"

	"obol/api"
	"obol/curve"
)

var (
	inf = api.Pt{Inf: true}
	// half is the one point whose Y is 0: it is its own opposite.
	half = api.Pt{}
	gen  = api.Pt{X: api.GenX, Y: api.GenY}
	p    = new(big.Int).SetUint64(api.P)
)

func number(n uint64) *big.Int { return new(big.Int).SetUint64(n) }

// fits tells by math/big whether the numbers are of a point.
func fits(x, y uint64) bool {
	a, b := number(x), number(y)
	left := new(big.Int).Mul(b, b)
	right := new(big.Int).Mul(new(big.Int).Mul(a, a), a)
	right.Add(right, a)
	return left.Sub(left, right).Mod(left, p).Sign() == 0
}

// at is the point with that X whose Y is even, if there is one.
func at(x uint64) (api.Pt, bool) {
	a := number(x)
	square := new(big.Int).Mul(new(big.Int).Mul(a, a), a)
	square.Add(square, a)
	root := new(big.Int).ModSqrt(square.Mod(square, p), p)
	if root == nil {
		return api.Pt{}, false
	}
	y := root.Uint64()
	if y%2 == 1 {
		y = api.P - y
	}
	return api.Pt{X: x, Y: y}, true
}

// drawn are n points by a fixed seed, of all orders.
func drawn(n int) []api.Pt {
	draw := rand.New(rand.NewSource(3))
	var l []api.Pt
	for len(l) < n {
		a, ok := at(draw.Uint64() % api.P)
		if !ok {
			continue
		}
		if draw.Intn(2) == 1 && a.Y != 0 {
			a.Y = api.P - a.Y
		}
		l = append(l, a)
	}
	return l
}

// quarter is a point whose double is half: 1 or P - 1 is its X.
func quarter() api.Pt {
	a, ok := at(1)
	if !ok {
		a, _ = at(api.P - 1)
	}
	return a
}

// points are those with few multiples, the first one and its neighbours, and
// some that are drawn.
func points() []api.Pt {
	four := quarter()
	l := []api.Pt{inf, half, four, opposite(four), gen, opposite(gen), plainSum(gen, gen),
		plainSum(gen, half), plainSum(gen, four), plainSum(gen, opposite(four))}
	for x := uint64(1); x < 20; x++ {
		if a, ok := at(x); ok {
			l = append(l, a)
		}
		if a, ok := at(api.P - x); ok {
			l = append(l, a)
		}
	}
	return append(l, drawn(30)...)
}

// others are no points: some would be if their numbers counted as rests, or if
// X and Y of Inf were not looked at.
func others() []api.Pt {
	return []api.Pt{
		{X: 1, Y: 1}, {X: 0, Y: 1}, {X: 1, Y: 0}, {X: api.P - 1}, {Y: api.P - 1},
		{X: api.GenX, Y: api.GenY + 1}, {X: api.GenX + 1, Y: api.GenY}, {X: api.GenY, Y: api.GenX},
		{X: api.P}, {Y: api.P}, {X: api.P, Y: api.P}, {X: 15 * api.P}, {Y: 2 * api.P},
		{X: api.GenX + api.P, Y: api.GenY}, {X: api.GenX, Y: api.GenY + api.P},
		{X: api.GenX + 3*api.P, Y: api.GenY + 3*api.P},
		{X: math.MaxUint64, Y: math.MaxUint64}, {X: math.MaxUint64}, {Y: math.MaxUint64},
		{Inf: true, X: 1}, {Inf: true, Y: 1}, {Inf: true, X: api.P}, {Inf: true, Y: api.P},
		{Inf: true, X: api.GenX, Y: api.GenY}, {Inf: true, X: math.MaxUint64, Y: math.MaxUint64},
	}
}

func opposite(a api.Pt) api.Pt {
	if a.Y != 0 {
		a.Y = api.P - a.Y
	}
	return a
}

// plainSum is the chapter's sum of points, by math/big.
func plainSum(a, b api.Pt) api.Pt {
	if a.Inf {
		return b
	}
	if b.Inf {
		return a
	}
	if a.X == b.X && (a.Y+b.Y)%api.P == 0 {
		return inf
	}
	top, bottom := new(big.Int), new(big.Int)
	if a == b {
		top.Mul(number(a.X), number(a.X)).Mul(top, number(3)).Add(top, number(1))
		bottom.Mul(number(a.Y), number(2))
	} else {
		top.Sub(number(a.Y), number(b.Y))
		bottom.Sub(number(a.X), number(b.X))
	}
	l := top.Mul(top, bottom.ModInverse(bottom.Mod(bottom, p), p))
	x := new(big.Int).Mul(l, l)
	x.Sub(x, number(a.X)).Sub(x, number(b.X)).Mod(x, p)
	y := new(big.Int).Sub(number(a.X), x)
	y.Mul(y, l).Sub(y, number(a.Y)).Mod(y, p)
	return api.Pt{X: x.Uint64(), Y: y.Uint64()}
}

// plainMultiple goes from the highest bit on.
func plainMultiple(a api.Pt, k uint64) api.Pt {
	total := inf
	for bit := 63; bit >= 0; bit-- {
		total = plainSum(total, total)
		if k>>bit&1 == 1 {
			total = plainSum(total, a)
		}
	}
	return total
}

// P3.1
func TestIs(t *testing.T) {
	for _, a := range points() {
		if !curve.Is(a) {
			t.Errorf("Is(%v) = false", a)
		}
		if !a.Inf && !fits(a.X, a.Y) {
			t.Errorf("%v is no point: the test is at fault", a)
		}
	}
	for _, a := range others() {
		if curve.Is(a) {
			t.Errorf("Is(%v) = true", a)
		}
	}
}

// P3.1: of numbers below P the curve alone decides.
func TestIsOfDrawnNumbers(t *testing.T) {
	draw := rand.New(rand.NewSource(31))
	for range 2000 {
		x, y := draw.Uint64()%api.P, draw.Uint64()%api.P
		if a, ok := at(x); ok {
			y = a.Y + draw.Uint64()%2
		}
		if got, want := curve.Is(api.Pt{X: x, Y: y}), fits(x, y); got != want {
			t.Errorf("Is(%d, %d) = %v, want %v", x, y, got, want)
		}
	}
}

// P3.1: Inf is one; the points of orders 2, 4 and all multiples of those
// aren't; nor is what is no point, though it counts as Inf elsewhere.
func TestIn(t *testing.T) {
	four := quarter()
	for _, a := range []api.Pt{inf, gen, opposite(gen), plainMultiple(gen, 12345)} {
		if !curve.In(a) {
			t.Errorf("In(%v) = false", a)
		}
	}
	for _, a := range []api.Pt{half, four, opposite(four), plainSum(gen, half), plainSum(gen, four)} {
		if curve.In(a) {
			t.Errorf("In(%v) = true", a)
		}
	}
	for _, a := range points() {
		if got, want := curve.In(a), plainMultiple(a, api.R) == inf; got != want {
			t.Errorf("In(%v) = %v, want %v", a, got, want)
		}
		if b := plainMultiple(a, 4); !curve.In(b) {
			t.Errorf("In(%v) = false, though it is 4 times a point", b)
		}
	}
	for _, a := range others() {
		if curve.In(a) {
			t.Errorf("In(%v) = true, though it is no point", a)
		}
	}
}

// P3.1
func TestGen(t *testing.T) {
	if got := curve.Gen(); got != gen {
		t.Errorf("Gen() = %v, want %v", got, gen)
	}
}

// P3.1: what is no point counts as Inf.
func TestOthersCountAsInf(t *testing.T) {
	for _, a := range others() {
		if got := curve.Neg(a); got != inf {
			t.Errorf("Neg(%v) = %v, want Inf", a, got)
		}
		for _, k := range []uint64{0, 1, 2, 3, api.R, api.P, math.MaxUint64} {
			if got := curve.Mul(a, k); got != inf {
				t.Errorf("Mul(%v, %d) = %v, want Inf", a, k, got)
			}
		}
		for _, b := range points() {
			if got := curve.Add(a, b); got != b {
				t.Errorf("Add(%v, %v) = %v, want the second one", a, b, got)
			}
			if got := curve.Add(b, a); got != b {
				t.Errorf("Add(%v, %v) = %v, want the first one", b, a, got)
			}
		}
		for _, b := range others() {
			if got := curve.Add(a, b); got != inf {
				t.Errorf("Add(%v, %v) = %v, want Inf", a, b, got)
			}
		}
	}
}

// P3.2: of unlike ones, of one with itself, with its opposite and with Inf.
func TestAdd(t *testing.T) {
	for _, a := range points() {
		for _, b := range append(points(), opposite(a)) {
			if got, want := curve.Add(a, b), plainSum(a, b); got != want {
				t.Fatalf("Add(%v, %v) = %v, want %v", a, b, got, want)
			}
		}
	}
}

// P3.2
func TestNeg(t *testing.T) {
	for _, a := range points() {
		b := curve.Neg(a)
		if b != opposite(a) || !curve.Is(b) {
			t.Errorf("Neg(%v) = %v, want %v", a, b, opposite(a))
		}
		if got := curve.Add(a, b); got != inf {
			t.Errorf("Add(%v, %v) = %v, want Inf", a, b, got)
		}
	}
}

// P3.2: k counts as it is, and not as its rest by some other number.
func TestMul(t *testing.T) {
	factors := []uint64{0, 1, 2, 3, 4, 5, 255, 256, api.S, api.R - 1, api.R, api.R + 1, 2 * api.R, 2*api.R + 1,
		api.P - 1, api.P, api.P + 1, api.P + 2, 1 << 63, math.MaxUint64 - 1, math.MaxUint64}
	for _, a := range points() {
		for _, k := range factors {
			if got, want := curve.Mul(a, k), plainMultiple(a, k); got != want {
				t.Fatalf("Mul(%v, %d) = %v, want %v", a, k, got, want)
			}
		}
	}
}

// P3.2 by its plainest meaning: added so many times.
func TestMulIsAddedSoManyTimes(t *testing.T) {
	for _, a := range points() {
		total := inf
		for k := range uint64(40) {
			if got := curve.Mul(a, k); got != total {
				t.Fatalf("Mul(%v, %d) = %v, want %v", a, k, got, total)
			}
			total = plainSum(total, a)
		}
	}
}

// The chapter's examples, and some more in plain numbers.
func TestExamples(t *testing.T) {
	cases := []struct {
		name      string
		got, want api.Pt
	}{
		{"Mul(Gen(), R)", curve.Mul(curve.Gen(), api.R), inf},
		{"Add(Gen(), Neg(Gen()))", curve.Add(curve.Gen(), curve.Neg(curve.Gen())), inf},
		{"Add(Inf, Inf)", curve.Add(inf, inf), inf},
		{"Add(Inf, Gen())", curve.Add(inf, gen), gen},
		{"Add(Gen(), Inf)", curve.Add(gen, inf), gen},
		{"Add of the point whose Y is 0 with itself", curve.Add(half, half), inf},
		{"twice the point whose Y is 0", curve.Mul(half, 2), inf},
		{"thrice the point whose Y is 0", curve.Mul(half, 3), half},
		{"Neg of the point whose Y is 0", curve.Neg(half), half},
		{"Neg(Inf)", curve.Neg(inf), inf},
		{"twice a point of order 4", curve.Add(quarter(), quarter()), half},
		{"Mul(Gen(), 0)", curve.Mul(gen, 0), inf},
		{"Mul(Gen(), R - 1)", curve.Mul(gen, api.R-1), opposite(gen)},
		{"Mul(Inf, 7)", curve.Mul(inf, 7), inf},
	}
	for _, c := range cases {
		if c.got != c.want {
			t.Errorf("%s = %v, want %v", c.name, c.got, c.want)
		}
	}
}

// P3.5: sums stay on the curve, in any order.
func TestIsGroup(t *testing.T) {
	l := append(drawn(12), inf, half, quarter(), gen, opposite(gen), plainSum(gen, gen))
	for _, a := range l {
		for _, b := range l {
			ab := curve.Add(a, b)
			if !curve.Is(ab) || ab != curve.Add(b, a) || curve.Add(ab, curve.Neg(b)) != a {
				t.Fatalf("the sum of %v and %v is %v: no point, or not the other way round", a, b, ab)
			}
			for _, c := range l {
				if curve.Add(ab, c) != curve.Add(a, curve.Add(b, c)) {
					t.Fatalf("the sum of %v, %v and %v hangs on the order", a, b, c)
				}
			}
		}
	}
}

// P3.5: P + 1 times every point is Inf, and of some points no smaller factor
// does. No group of points has twice as many elements as that.
func TestHasPPlusOneElements(t *testing.T) {
	whole := 0
	for _, a := range append(points(), drawn(200)...) {
		if got := curve.Mul(a, api.P+1); got != inf {
			t.Errorf("P + 1 times %v is %v, want Inf", a, got)
		}
		// P + 1 is 4 R: 2 and R are the primes that divide it.
		if curve.Mul(a, (api.P+1)/2) != inf && curve.Mul(a, (api.P+1)/api.R) != inf {
			whole++
		}
	}
	if whole == 0 {
		t.Error("no point has all the others as its multiples")
	}
}

// P3.5: R is a prime, so that no smaller factor takes the first point to Inf.
func TestFirstPointHasRMultiples(t *testing.T) {
	if curve.Mul(gen, api.R) != inf || curve.Mul(gen, 1) == inf || !number(api.R).ProbablyPrime(20) {
		t.Error("the first point isn't of order R")
	}
	draw := rand.New(rand.NewSource(35))
	for range 100 {
		j, k := draw.Uint64()%api.R, draw.Uint64()%api.R
		a, b := curve.Mul(gen, j), curve.Mul(gen, k)
		if curve.Add(a, b) != curve.Mul(gen, j+k) || curve.Mul(a, k) != curve.Mul(b, j) {
			t.Errorf("the multiples by %d and %d don't add up", j, k)
		}
		if curve.Mul(gen, j+api.R) != a || j != k && a == b || !curve.In(a) {
			t.Errorf("the multiples by %d and %d are %v and %v", j, k, a, b)
		}
	}
}
