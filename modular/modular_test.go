package modular_test

import (
	"math"
	"math/big"
	"math/rand"
	"testing"

	"obol/api"
	"obol/modular"
)

const greatest = uint64(1) << 62

// noModuli are numbers that count as no modulus.
func noModuli() []uint64 {
	return []uint64{0, 1, greatest + 1, greatest + 2, 3 << 61, 1 << 63, 1<<63 + 1, math.MaxUint64 - 1, math.MaxUint64}
}

// moduli are the least and the greatest one, their neighbours, the primes of
// the program, and some with small divisors.
func moduli() []uint64 {
	return []uint64{2, 3, 4, 7, 10, 12, 1 << 31, 1 << 32, 1<<32 + 1, 1 << 61, greatest - 1, greatest, api.P, api.R, api.S}
}

// numbers are edges around m, around words, and some drawn by a fixed seed.
func numbers(m uint64) []uint64 {
	l := []uint64{0, 1, 2, 3, 5, m - 2, m - 1, m, m + 1, m/2 - 1, m / 2, m/2 + 1, 2*m - 1, 2 * m, 3*m + 1,
		1<<32 - 1, 1 << 32, greatest - 1, greatest, greatest + 1, 1 << 63, math.MaxUint64 - 1, math.MaxUint64}
	draw := rand.New(rand.NewSource(int64(m)))
	for range 12 {
		l = append(l, draw.Uint64(), draw.Uint64()%m)
	}
	return l
}

func whole(a uint64) *big.Int { return new(big.Int).SetUint64(a) }

// restOf is the rest by m, never below 0.
func restOf(a *big.Int, m uint64) uint64 { return new(big.Int).Mod(a, whole(m)).Uint64() }

// P1.1, P1.4: also for numbers that are not below the modulus.
func TestAddSubMulAreRests(t *testing.T) {
	for _, m := range moduli() {
		for _, a := range numbers(m) {
			for _, b := range numbers(m) {
				x, y := whole(a), whole(b)
				if got, want := modular.Add(m, a, b), restOf(new(big.Int).Add(x, y), m); got != want {
					t.Fatalf("Add(%d, %d, %d) = %d, want %d", m, a, b, got, want)
				}
				if got, want := modular.Sub(m, a, b), restOf(new(big.Int).Sub(x, y), m); got != want {
					t.Fatalf("Sub(%d, %d, %d) = %d, want %d", m, a, b, got, want)
				}
				if got, want := modular.Mul(m, a, b), restOf(new(big.Int).Mul(x, y), m); got != want {
					t.Fatalf("Mul(%d, %d, %d) = %d, want %d", m, a, b, got, want)
				}
			}
		}
	}
}

// P1.1, P1.4: the exponent counts as it is, not as its rest.
func TestPowIsRest(t *testing.T) {
	for _, m := range moduli() {
		for _, a := range numbers(m) {
			for _, e := range numbers(m) {
				want := new(big.Int).Exp(whole(a), whole(e), whole(m)).Uint64()
				if got := modular.Pow(m, a, e); got != want {
					t.Fatalf("Pow(%d, %d, %d) = %d, want %d", m, a, e, got, want)
				}
			}
		}
	}
}

// P1.1: 0 to the 0, and what counts as 0, to the 0.
func TestPowToZero(t *testing.T) {
	for _, m := range moduli() {
		for _, a := range []uint64{0, m, 2 * m, 1, m - 1, math.MaxUint64} {
			if got := modular.Pow(m, a, 0); got != 1 {
				t.Errorf("Pow(%d, %d, 0) = %d, want 1", m, a, got)
			}
		}
		if got := modular.Pow(m, 0, 1); got != 0 {
			t.Errorf("Pow(%d, 0, 1) = %d, want 0", m, got)
		}
	}
}

// P1.1: 0 by no modulus.
func TestNoModulusTellsZero(t *testing.T) {
	for _, m := range noModuli() {
		for _, a := range numbers(7) {
			for _, b := range numbers(7) {
				for name, got := range map[string]uint64{
					"Add": modular.Add(m, a, b), "Sub": modular.Sub(m, a, b),
					"Mul": modular.Mul(m, a, b), "Pow": modular.Pow(m, a, b),
				} {
					if got != 0 {
						t.Fatalf("%s(%d, %d, %d) = %d, want 0", name, m, a, b, got)
					}
				}
			}
		}
	}
}

// The chapter's examples, and the edges 2 and 2^62 in plain numbers.
func TestExamples(t *testing.T) {
	cases := []struct {
		name      string
		got, want uint64
	}{
		{"Mul(7, 5, 6)", modular.Mul(7, 5, 6), 2},
		{"Pow(7, 3, 5)", modular.Pow(7, 3, 5), 5},
		{"Add(7, 5, 6)", modular.Add(7, 5, 6), 4},
		{"Sub(7, 5, 6)", modular.Sub(7, 5, 6), 6},
		{"Sub(7, 5, 5)", modular.Sub(7, 5, 5), 0},
		{"Sub(7, 0, 7)", modular.Sub(7, 0, 7), 0},
		{"Add(2, 1, 1)", modular.Add(2, 1, 1), 0},
		{"Sub(2, 0, 1)", modular.Sub(2, 0, 1), 1},
		{"Mul(2, 3, 5)", modular.Mul(2, 3, 5), 1},
		{"Add(2^62, 2^62 - 1, 2^62 - 1)", modular.Add(greatest, greatest-1, greatest-1), greatest - 2},
		{"Sub(2^62, 0, 1)", modular.Sub(greatest, 0, 1), greatest - 1},
		{"Mul(2^62, 2^62 - 1, 2^62 - 1)", modular.Mul(greatest, greatest-1, greatest-1), 1},
		{"Pow(2^62, 2, 61)", modular.Pow(greatest, 2, 61), 1 << 61},
		{"Pow(2^62, 2, 62)", modular.Pow(greatest, 2, 62), 0},
		{"Add(10, 2^64 - 1, 2^64 - 1)", modular.Add(10, math.MaxUint64, math.MaxUint64), 0},
	}
	for _, c := range cases {
		if c.got != c.want {
			t.Errorf("%s = %d, want %d", c.name, c.got, c.want)
		}
	}
}

// P1.2, P1.4, R3: the inverse, or ErrNone with 0 beside it.
func TestInv(t *testing.T) {
	for _, m := range moduli() {
		for _, a := range numbers(m) {
			got, err := modular.Inv(m, a)
			want := new(big.Int).ModInverse(whole(a), whole(m))
			if want == nil {
				if got != 0 || err != api.ErrNone {
					t.Fatalf("Inv(%d, %d) = %d, %v, want 0, ErrNone", m, a, got, err)
				}
				continue
			}
			if err != nil || got != want.Uint64() {
				t.Fatalf("Inv(%d, %d) = %d, %v, want %d", m, a, got, err, want)
			}
		}
	}
}

// P1.2 of all numbers by small moduli, by its own words.
func TestInvOfSmallModuli(t *testing.T) {
	for m := uint64(2); m <= 60; m++ {
		for a := range 2 * m {
			got, err := modular.Inv(m, a)
			if coprime := new(big.Int).GCD(nil, nil, whole(a), whole(m)).Uint64() == 1; !coprime {
				if got != 0 || err != api.ErrNone {
					t.Fatalf("Inv(%d, %d) = %d, %v, want 0, ErrNone", m, a, got, err)
				}
			} else if err != nil || got >= m || a*got%m != 1 {
				t.Fatalf("Inv(%d, %d) = %d, %v", m, a, got, err)
			}
		}
	}
}

// P1.2: the chapter's examples.
func TestInvExamples(t *testing.T) {
	if got, err := modular.Inv(10, 3); got != 7 || err != nil {
		t.Errorf("Inv(10, 3) = %d, %v, want 7", got, err)
	}
	if got, err := modular.Inv(10, 4); got != 0 || err != api.ErrNone {
		t.Errorf("Inv(10, 4) = %d, %v, want 0, ErrNone", got, err)
	}
}

// P1.2, R1, R3: ErrArg comes first, also where there is a common divisor.
func TestInvByNoModulus(t *testing.T) {
	for _, m := range noModuli() {
		for _, a := range []uint64{0, 1, 2, 3, m, m - 1, greatest, math.MaxUint64} {
			if got, err := modular.Inv(m, a); got != 0 || err != api.ErrArg {
				t.Errorf("Inv(%d, %d) = %d, %v, want 0, ErrArg", m, a, got, err)
			}
		}
	}
}

// P1.5: sums and products in any order, powers of sums.
func TestOrderDoesNotMatter(t *testing.T) {
	for _, m := range append(moduli(), noModuli()...) {
		draw := rand.New(rand.NewSource(15))
		for range 300 {
			a, b, c := draw.Uint64(), draw.Uint64(), draw.Uint64()
			checkOrder(t, m, a, b, c)
			e, f := draw.Uint64()>>1, draw.Uint64()>>1
			if modular.Pow(m, a, e+f) != modular.Mul(m, modular.Pow(m, a, e), modular.Pow(m, a, f)) {
				t.Fatalf("%d to the %d + %d modulo %d", a, e, f, m)
			}
		}
	}
}

func checkOrder(t *testing.T, m, a, b, c uint64) {
	t.Helper()
	for name, op := range map[string]func(m, a, b uint64) uint64{"Add": modular.Add, "Mul": modular.Mul} {
		if op(m, a, b) != op(m, b, a) {
			t.Fatalf("%s(%d, %d, %d) hangs on the order", name, m, a, b)
		}
		if op(m, op(m, a, b), c) != op(m, a, op(m, b, c)) {
			t.Fatalf("%s of %d, %d, %d modulo %d hangs on the order", name, a, b, c, m)
		}
	}
	if modular.Sub(m, modular.Add(m, a, b), b) != modular.Mul(m, a, 1) {
		t.Fatalf("Sub does not undo Add of %d, %d modulo %d", a, b, m)
	}
}
