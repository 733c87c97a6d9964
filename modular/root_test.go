package modular_test

import (
	"math"
	"math/big"
	"math/rand"
	"testing"

	"obol/api"
	"obol/modular"
)

// checkRoot holds Root against what big tells of a: P1.3, P1.4, R3.
func checkRoot(t *testing.T, a uint64) {
	t.Helper()
	got, err := modular.Root(a)
	want := new(big.Int).ModSqrt(whole(a%api.R), whole(api.R))
	if want == nil {
		if got != 0 || err != api.ErrNone {
			t.Errorf("Root(%d) = %d, %v, want 0, ErrNone", a, got, err)
		}
		return
	}
	least := want.Uint64()
	if least > api.R/2 {
		least = api.R - least
	}
	if err != nil || got != least {
		t.Errorf("Root(%d) = %d, %v, want %d", a, got, err, least)
	}
}

// P1.3: of numbers of all kinds, also of those that are not below R.
func TestRoot(t *testing.T) {
	for a := range uint64(2000) {
		checkRoot(t, a)
		checkRoot(t, api.R-a)
		checkRoot(t, api.R+a)
		checkRoot(t, math.MaxUint64-a)
	}
	draw := rand.New(rand.NewSource(13))
	for range 5000 {
		checkRoot(t, draw.Uint64())
	}
}

// P1.3: of two roots the one that isn't above R / 2, at both sides of it.
func TestRootIsTheLesserOne(t *testing.T) {
	half := uint64(api.R / 2)
	for _, n := range []uint64{0, 1, 2, 3, 1000, half - 1, half, half + 1, half + 2, api.R - 2, api.R - 1} {
		want := n
		if n > half {
			want = api.R - n
		}
		if got, err := modular.Root(modular.Mul(api.R, n, n)); got != want || err != nil {
			t.Errorf("Root of %d squared = %d, %v, want %d", n, got, err, want)
		}
	}
}

// P1.3: the chapter's example, 0 and what counts as 0, and NoRoot.
func TestRootExamples(t *testing.T) {
	for a, want := range map[uint64]uint64{4: 2, 0: 0, api.R: 0, 2 * api.R: 0, 1: 1, api.R + 4: 2} {
		if got, err := modular.Root(a); got != want || err != nil {
			t.Errorf("Root(%d) = %d, %v, want %d", a, got, err, want)
		}
	}
	for _, a := range []uint64{api.NoRoot, api.R + api.NoRoot, modular.Mul(api.R, api.NoRoot, 4)} {
		if got, err := modular.Root(a); got != 0 || err != api.ErrNone {
			t.Errorf("Root(%d) = %d, %v, want 0, ErrNone", a, got, err)
		}
	}
}

// P1.3: of elements of every order that is a power of 2, where the search
// takes its most steps.
func TestRootOfPowersOfTwo(t *testing.T) {
	a := modular.Pow(api.R, api.NoRoot, (api.R-1)>>18)
	for k := 18; k > 0; k-- {
		_, err := modular.Root(a)
		if none := err == api.ErrNone; none != (k == 18) {
			t.Errorf("Root of an element of order 2^%d: %v", k, err)
		}
		checkRoot(t, a)
		a = modular.Mul(api.R, a, a)
	}
	if a != 1 {
		t.Errorf("2^18 is not the order: %d", a)
	}
}
