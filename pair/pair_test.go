package pair_test

import (
	"math"
	"math/big"
	"math/rand"
	"slices"
	"testing"

	"obol/api"
	"obol/curve"
	"obol/ext"
	"obol/pair"
)

var (
	zero = api.E{}
	one  = api.E{1, 0}
	inf  = api.Pt{Inf: true}
	gen  = api.Pt{X: api.GenX, Y: api.GenY}
	// half is of order 2: its Y is 0.
	half = api.Pt{}
)

// drawn are n multiples of the first point, by a fixed seed.
func drawn(seed int64, n int) []api.Pt {
	draw := rand.New(rand.NewSource(seed))
	var l []api.Pt
	for range n {
		l = append(l, curve.Mul(gen, draw.Uint64()))
	}
	return l
}

// points are of order R: Inf, small multiples of the first point and of its
// opposite, and some that are drawn.
func points() []api.Pt {
	l := []api.Pt{inf}
	for _, k := range []uint64{1, 2, 3, 4, 12345, api.R / 2} {
		a := curve.Mul(gen, k)
		l = append(l, a, opposite(a))
	}
	return append(l, drawn(4, 8)...)
}

// quarter is of order 4: 1 or P - 1 is its X.
func quarter() api.Pt {
	for _, x := range []uint64{1, api.P - 1} {
		a := number(x)
		if y := new(big.Int).ModSqrt(plus(times(times(a, a), a), a), p); y != nil {
			return api.Pt{X: x, Y: y.Uint64()}
		}
	}
	panic("no point of order 4")
}

// strangers aren't points of order R: points of other orders, and what is no
// point, though some of it would be if numbers counted as their rests or if
// the X and Y of Inf were not looked at.
func strangers() []api.Pt {
	four := quarter()
	return []api.Pt{
		half, four, opposite(four), plainSum(gen, half), plainSum(gen, four), plainSum(gen, opposite(four)),
		{X: 1, Y: 1}, {Y: 1}, {X: api.P - 1}, {X: api.GenX, Y: api.GenY + 1}, {X: api.GenY, Y: api.GenX},
		{X: api.P}, {Y: api.P}, {X: api.GenX + api.P, Y: api.GenY}, {X: api.GenX, Y: api.GenY + api.P},
		{X: math.MaxUint64, Y: math.MaxUint64}, {X: math.MaxUint64}, {Y: math.MaxUint64},
		{Inf: true, X: 1}, {Inf: true, Y: 1}, {Inf: true, X: api.P}, {Inf: true, X: api.GenX, Y: api.GenY},
		{Inf: true, X: math.MaxUint64, Y: math.MaxUint64},
	}
}

// P4.1: the pairing is the chapter's, and not a power of it or its inverse.
func TestPair(t *testing.T) {
	for _, a := range points() {
		for _, q := range points() {
			if got, want := pair.Pair(a, q), plainPairing(a, q).told(); got != want {
				t.Fatalf("Pair(%v, %v) = %v, want %v", a, q, got, want)
			}
		}
	}
}

// P4.1 in numbers that no code of the project told.
func TestPairInNumbers(t *testing.T) {
	cases := []struct {
		j, k uint64
		want api.E
	}{
		{1, 1, api.E{914673367834607257, 928930791180908549}},
		{2, 3, api.E{50694177919942299, 87389657227309994}},
		{12345, api.R - 1, api.E{177679706494670293, 1047630325450518966}},
	}
	for _, c := range cases {
		if got := pair.Pair(curve.Mul(gen, c.j), curve.Mul(gen, c.k)); got != c.want {
			t.Errorf("the pairing of multiples by %d and %d is %v, want %v", c.j, c.k, got, c.want)
		}
	}
}

// P4.1, and the chapter's first example.
func TestPairOfInf(t *testing.T) {
	for _, a := range points() {
		if got := pair.Pair(inf, a); got != one {
			t.Errorf("Pair(Inf, %v) = %v, want 1", a, got)
		}
		if got := pair.Pair(a, inf); got != one {
			t.Errorf("Pair(%v, Inf) = %v, want 1", a, got)
		}
	}
}

// P4.1: a stranger makes 0, on either side, beside Inf too.
func TestPairOfStrangers(t *testing.T) {
	for _, a := range strangers() {
		for _, b := range append(strangers(), inf, gen, opposite(gen)) {
			if got := pair.Pair(a, b); got != zero {
				t.Errorf("Pair(%v, %v) = %v, want 0", a, b, got)
			}
			if got := pair.Pair(b, a); got != zero {
				t.Errorf("Pair(%v, %v) = %v, want 0", b, a, got)
			}
		}
	}
}

// holdProduct holds what Product tells of lists without a fault.
func holdProduct(t *testing.T, a, q []api.Pt) {
	t.Helper()
	want := asElement(one)
	for i := range a {
		want = want.times(plainPairing(a[i], q[i]))
	}
	if got, err := pair.Product(a, q); got != want.told() || err != nil {
		t.Errorf("Product(%v, %v) = %v, %v, want %v", a, q, got, err, want.told())
	}
}

// P4.2: of none, of one, and of many.
func TestProduct(t *testing.T) {
	a, q := drawn(41, 12), drawn(42, 12)
	a[3], q[7] = inf, inf
	q[5] = a[5]
	for n := range len(a) + 1 {
		holdProduct(t, a[:n], q[:n])
	}
	for _, x := range points() {
		holdProduct(t, []api.Pt{x}, []api.Pt{gen})
		holdProduct(t, []api.Pt{x, gen}, []api.Pt{x, x})
	}
}

// P4.2: lists of no elements, told in either way.
func TestProductOfNone(t *testing.T) {
	for _, a := range [][]api.Pt{nil, {}} {
		for _, q := range [][]api.Pt{nil, {}} {
			if got, err := pair.Product(a, q); got != one || err != nil {
				t.Errorf("Product(%#v, %#v) = %v, %v, want 1", a, q, got, err)
			}
		}
	}
}

// The chapter's second example.
func TestProductWithOpposite(t *testing.T) {
	for _, a := range points() {
		for _, q := range points() {
			got, err := pair.Product([]api.Pt{a, opposite(a)}, []api.Pt{q, q})
			if got != one || err != nil {
				t.Errorf("Product(%v and its opposite; %v twice) = %v, %v, want 1", a, q, got, err)
			}
		}
	}
}

// holdRefused wants ErrArg itself, and 0 with it (R3).
func holdRefused(t *testing.T, a, q []api.Pt) {
	t.Helper()
	if got, err := pair.Product(a, q); got != zero || err != api.ErrArg {
		t.Errorf("Product(%v, %v) = %v, %v, want 0, %v", a, q, got, err, api.ErrArg)
	}
}

// P4.2: one list longer than the other, whatever is in it.
func TestProductOfUnlikeLengths(t *testing.T) {
	l := drawn(43, 4)
	for n := range len(l) + 1 {
		for m := range len(l) + 1 {
			if n != m {
				holdRefused(t, l[:n], l[:m])
			}
		}
	}
	holdRefused(t, nil, []api.Pt{inf})
	holdRefused(t, []api.Pt{inf}, nil)
	holdRefused(t, []api.Pt{inf, inf}, []api.Pt{inf})
	holdRefused(t, []api.Pt{half}, nil)
}

// P4.2: one stranger, in every place, beside Inf too.
func TestProductWithStrangers(t *testing.T) {
	for _, stranger := range strangers() {
		for i := range 3 {
			a, q := drawn(44, 3), []api.Pt{gen, inf, gen}
			a[i] = stranger
			holdRefused(t, a, q)
			holdRefused(t, q, a)
		}
		holdRefused(t, []api.Pt{stranger}, []api.Pt{stranger})
		holdRefused(t, []api.Pt{stranger, stranger}, []api.Pt{stranger, stranger})
	}
}

// P4.3, also of what stands behind the lists.
func TestProductChangesNothing(t *testing.T) {
	a, q := drawn(45, 6), drawn(46, 6)
	before, beforeQ := slices.Clone(a), slices.Clone(q)
	first, err := pair.Product(a[:4], q[:4])
	if err != nil {
		t.Fatal(err)
	}
	pair.Product(a[:4], q[:3])
	if !slices.Equal(a, before) || !slices.Equal(q, beforeQ) {
		t.Errorf("the lists became %v and %v", a, q)
	}
	// What was handed in and what was asked in between count for nothing.
	clear(a)
	clear(q)
	if again, err := pair.Product(before[:4], beforeQ[:4]); again != first || err != nil {
		t.Errorf("told again it is %v, %v, and was %v", again, err, first)
	}
}

// P4.4
func TestPairOfMultiples(t *testing.T) {
	draw := rand.New(rand.NewSource(47))
	factors := []uint64{0, 1, 2, 3, 210, api.R - 1, api.R, api.R + 1, api.P, math.MaxUint64}
	for range 20 {
		factors = append(factors, draw.Uint64())
	}
	for _, a := range points() {
		q := curve.Mul(gen, draw.Uint64())
		e := pair.Pair(a, q)
		for _, k := range factors {
			want := ext.Pow(e, k)
			if got := pair.Pair(curve.Mul(a, k), q); got != want {
				t.Errorf("Pair of %d times %v and %v is %v, want %v", k, a, q, got, want)
			}
			if got := pair.Pair(a, curve.Mul(q, k)); got != want {
				t.Errorf("Pair of %v and %d times %v is %v, want %v", a, k, q, got, want)
			}
		}
	}
}

// P4.4: sums on either side become products.
func TestPairOfSums(t *testing.T) {
	l := points()
	for i, a := range l {
		b, q := l[(i+1)%len(l)], l[(i+5)%len(l)]
		if got, want := pair.Pair(curve.Add(a, b), q), ext.Mul(pair.Pair(a, q), pair.Pair(b, q)); got != want {
			t.Errorf("Pair of %v and %v together, and %v, is %v, want %v", a, b, q, got, want)
		}
		if got, want := pair.Pair(q, curve.Add(a, b)), ext.Mul(pair.Pair(q, a), pair.Pair(q, b)); got != want {
			t.Errorf("Pair of %v, and %v and %v together, is %v, want %v", q, a, b, got, want)
		}
	}
}

// P4.4: R is a prime, so that 1 is the only power below the R-th that is 1.
func TestPairIsOfOrderR(t *testing.T) {
	for _, a := range points() {
		for _, q := range points() {
			e := pair.Pair(a, q)
			if ext.Pow(e, api.R) != one {
				t.Errorf("Pair(%v, %v) = %v, and to the R it isn't 1", a, q, e)
			}
			if (e == one) != (a.Inf || q.Inf) {
				t.Errorf("Pair(%v, %v) = %v", a, q, e)
			}
		}
	}
	if e := pair.Pair(curve.Gen(), curve.Gen()); e == one || e == zero {
		t.Errorf("Pair of the first point with itself is %v", e)
	}
}

// P4.5: so the walls, which the chapter's turn has and the project's leaves
// out, change nothing.
func TestNumbersWithoutICountForNothing(t *testing.T) {
	draw := rand.New(rand.NewSource(48))
	numbers := []uint64{1, 2, 3, api.R, api.P / 2, api.P - 2, api.P - 1}
	for _, a := range points()[1:] {
		numbers = append(numbers, draw.Uint64()%(api.P-1)+1, plainWall(a, gen).Uint64())
	}
	for _, n := range numbers {
		if got := asElement(api.E{n, 0}).to(lastPower()).told(); got != one {
			t.Errorf("%d to the (P P - 1) / R is %v, want 1", n, got)
		}
	}
}
