package ext_test

import (
	"math"
	"math/big"
	"math/rand"
	"testing"

	"obol/api"
	"obol/ext"
)

var (
	zero = api.E{0, 0}
	one  = api.E{1, 0}
	i    = api.E{0, 1}
)

// edges are numbers around 0, around P and its multiples, and around words:
// those from P on count as their rests.
func edges() []uint64 {
	return []uint64{0, 1, 2, api.P / 2, api.P/2 + 1, api.P - 2, api.P - 1, api.P, api.P + 1,
		2*api.P - 1, 2 * api.P, 15 * api.P, 1 << 32, 1 << 63, math.MaxUint64 - 1, math.MaxUint64}
}

// elements are all pairs of edges, and some drawn by a fixed seed.
func elements() []api.E {
	var l []api.E
	for _, x := range edges() {
		for _, y := range edges() {
			l = append(l, api.E{x, y})
		}
	}
	return append(l, drawn(60)...)
}

// drawn are elements of which every second one has numbers below P.
func drawn(n int) []api.E {
	draw := rand.New(rand.NewSource(2))
	var l []api.E
	for k := range n {
		a := api.E{draw.Uint64(), draw.Uint64()}
		if k%2 == 0 {
			a = api.E{a[0] % api.P, a[1] % api.P}
		}
		l = append(l, a)
	}
	return l
}

// A pair is an element reckoned by math/big, whose numbers may grow.
type pair struct{ re, im *big.Int }

func asPair(a api.E) pair {
	return pair{new(big.Int).SetUint64(a[0]), new(big.Int).SetUint64(a[1])}
}

func (a pair) element() api.E {
	p := new(big.Int).SetUint64(api.P)
	return api.E{new(big.Int).Mod(a.re, p).Uint64(), new(big.Int).Mod(a.im, p).Uint64()}
}

func (a pair) plus(b pair) pair {
	return pair{new(big.Int).Add(a.re, b.re), new(big.Int).Add(a.im, b.im)}
}

func (a pair) less(b pair) pair {
	return pair{new(big.Int).Sub(a.re, b.re), new(big.Int).Sub(a.im, b.im)}
}

// times has i times i as -1.
func (a pair) times(b pair) pair {
	mul := func(x, y *big.Int) *big.Int { return new(big.Int).Mul(x, y) }
	return pair{
		new(big.Int).Sub(mul(a.re, b.re), mul(a.im, b.im)),
		new(big.Int).Add(mul(a.re, b.im), mul(a.im, b.re)),
	}
}

// rests are a's numbers, brought below P.
func rests(a api.E) api.E { return api.E{a[0] % api.P, a[1] % api.P} }

// P2.1: also for numbers that aren't below P.
func TestAddSubMul(t *testing.T) {
	all := elements()
	for _, a := range all {
		for _, b := range all {
			x, y := asPair(a), asPair(b)
			if got, want := ext.Add(a, b), x.plus(y).element(); got != want {
				t.Fatalf("Add(%d, %d) = %d, want %d", a, b, got, want)
			}
			if got, want := ext.Sub(a, b), x.less(y).element(); got != want {
				t.Fatalf("Sub(%d, %d) = %d, want %d", a, b, got, want)
			}
			if got, want := ext.Mul(a, b), x.times(y).element(); got != want {
				t.Fatalf("Mul(%d, %d) = %d, want %d", a, b, got, want)
			}
		}
	}
}

// P2.1
func TestConj(t *testing.T) {
	for _, a := range elements() {
		x := asPair(a)
		want := pair{x.re, new(big.Int).Neg(x.im)}.element()
		if got := ext.Conj(a); got != want {
			t.Errorf("Conj(%d) = %d, want %d", a, got, want)
		}
	}
}

// P2.1: of 0, and of what counts as 0, it is 0.
func TestInv(t *testing.T) {
	for _, a := range elements() {
		got := ext.Inv(a)
		if got != rests(got) {
			t.Errorf("Inv(%d) = %d, which isn't below P", a, got)
		}
		if rests(a) == zero {
			if got != zero {
				t.Errorf("Inv(%d) = %d, want 0", a, got)
			}
			continue
		}
		if product := asPair(a).times(asPair(got)).element(); product != one {
			t.Errorf("Inv(%d) = %d, the product with it is %d", a, got, product)
		}
	}
}

// P2.1: the exponent counts as it is, not as its rest.
func TestPow(t *testing.T) {
	exponents := append(edges(), 3, 4, 5, 7, 8, 64, 255)
	for _, a := range append(drawn(20), zero, one, i, api.E{api.P, api.P}, api.E{3, 5}, api.E{api.P - 1, 0},
		api.E{math.MaxUint64, math.MaxUint64}) {
		for _, e := range exponents {
			if got, want := ext.Pow(a, e), powerOf(a, e); got != want {
				t.Fatalf("Pow(%d, %d) = %d, want %d", a, e, got, want)
			}
		}
	}
}

// powerOf goes from the highest bit on.
func powerOf(a api.E, e uint64) api.E {
	power := one
	for k := 63; k >= 0; k-- {
		power = asPair(power).times(asPair(power)).element()
		if e>>k&1 == 1 {
			power = asPair(power).times(asPair(a)).element()
		}
	}
	return power
}

// P2.1 by its plainest meaning: so many factors.
func TestPowOfSmallExponents(t *testing.T) {
	for _, a := range append(drawn(20), zero, one, i) {
		power := one
		for e := range uint64(40) {
			if got := ext.Pow(a, e); got != power {
				t.Fatalf("Pow(%d, %d) = %d, want %d", a, e, got, power)
			}
			power = asPair(power).times(asPair(a)).element()
		}
	}
}

// P2.1: 0 to the 0, and what counts as 0, to the 0.
func TestPowToZero(t *testing.T) {
	for _, a := range elements() {
		if got := ext.Pow(a, 0); got != one {
			t.Errorf("Pow(%d, 0) = %d, want 1", a, got)
		}
		if got := ext.Pow(a, 1); got != rests(a) {
			t.Errorf("Pow(%d, 1) = %d, want %d", a, got, rests(a))
		}
	}
}

// The chapter's examples, and some more in plain numbers.
func TestExamples(t *testing.T) {
	cases := []struct {
		name      string
		got, want api.E
	}{
		{"Mul(i, i)", ext.Mul(i, i), api.E{api.P - 1, 0}},
		{"Inv(0)", ext.Inv(zero), zero},
		{"Inv(1)", ext.Inv(one), one},
		{"Inv(i)", ext.Inv(i), api.E{0, api.P - 1}},
		{"Conj(i)", ext.Conj(i), api.E{0, api.P - 1}},
		{"Conj(0)", ext.Conj(zero), zero},
		{"Conj(1)", ext.Conj(one), one},
		{"Add(P - 1, 1)", ext.Add(api.E{api.P - 1, api.P - 1}, api.E{1, 1}), zero},
		{"Sub(0, 1 + i)", ext.Sub(zero, api.E{1, 1}), api.E{api.P - 1, api.P - 1}},
		{"Mul(3 + 5i, 7 + 11i)", ext.Mul(api.E{3, 5}, api.E{7, 11}), api.E{api.P - 34, 68}},
		{"Pow(i, 2)", ext.Pow(i, 2), api.E{api.P - 1, 0}},
		{"Pow(i, 4)", ext.Pow(i, 4), one},
		{"Pow(0, 0)", ext.Pow(zero, 0), one},
		{"Pow(0, 1)", ext.Pow(zero, 1), zero},
	}
	for _, c := range cases {
		if c.got != c.want {
			t.Errorf("%s = %d, want %d", c.name, c.got, c.want)
		}
	}
}

// P2.4: sums and products in any order, and the one over the other.
func TestIsField(t *testing.T) {
	l := append(drawn(40), zero, one, i, api.E{api.P - 1, api.P - 1}, api.E{math.MaxUint64, math.MaxUint64})
	for _, a := range l {
		for _, b := range l {
			checkUndone(t, a, b)
			for _, c := range l {
				checkOrder(t, a, b, c)
			}
		}
	}
}

func checkOrder(t *testing.T, a, b, c api.E) {
	t.Helper()
	for name, op := range map[string]func(a, b api.E) api.E{"Add": ext.Add, "Mul": ext.Mul} {
		if op(a, b) != op(b, a) {
			t.Fatalf("%s(%d, %d) hangs on the order", name, a, b)
		}
		if op(op(a, b), c) != op(a, op(b, c)) {
			t.Fatalf("%s of %d, %d, %d hangs on the order", name, a, b, c)
		}
	}
	if ext.Mul(a, ext.Add(b, c)) != ext.Add(ext.Mul(a, b), ext.Mul(a, c)) {
		t.Fatalf("%d times the sum of %d and %d isn't distributed", a, b, c)
	}
}

func checkUndone(t *testing.T, a, b api.E) {
	t.Helper()
	if got := ext.Sub(ext.Add(a, b), b); got != rests(a) {
		t.Fatalf("Sub doesn't undo Add of %d, %d: %d", a, b, got)
	}
	if rests(b) == zero {
		return
	}
	if got := ext.Mul(ext.Mul(a, b), ext.Inv(b)); got != rests(a) {
		t.Fatalf("Inv doesn't undo Mul of %d, %d: %d", a, b, got)
	}
}

// P2.4
func TestPowToPIsConj(t *testing.T) {
	for _, a := range elements() {
		if got, want := ext.Pow(a, api.P), ext.Conj(a); got != want {
			t.Errorf("%d to the P is %d, want %d", a, got, want)
		}
	}
}
