package poly_test

import (
	"math"
	"slices"
	"testing"

	"obol/api"
	"obol/poly"
)

func checkEval(t *testing.T, p []uint64, x, want uint64) {
	t.Helper()
	if got := poly.Eval(p, x); got != want {
		t.Errorf("Eval(%d; %d) = %d, want %d", p, x, got, want)
	}
}

// checkList shortens what it tells, as lists may be long.
func checkList(t *testing.T, what string, got []uint64, err error, want []uint64) {
	t.Helper()
	if err != nil || !slices.Equal(got, want) {
		t.Errorf("%s is %d of %d numbers, %v, want %d of %d", what, head(got), len(got), err, head(want), len(want))
	}
}

func head(l []uint64) []uint64 { return l[:min(len(l), 20)] }

// checkError asks that nothing but the error is answered.
func checkError(t *testing.T, what string, got []uint64, err, want error) {
	t.Helper()
	if err != want || len(got) != 0 {
		t.Errorf("%s is %d of %d numbers, %v, want none, %v", what, head(got), len(got), err, want)
	}
}

// digest is a number of a list in which each place has its own weight.
func digest(l []uint64) uint64 {
	slices.Reverse(l)
	defer slices.Reverse(l)
	return plainEval(l, 31)
}

// powersOf is a list of the powers 0 to size - 1 of x.
func powersOf(x uint64, size int) []uint64 {
	l := make([]uint64, size)
	for i := range l {
		l[i] = power(x, uint64(i))
	}
	return l
}

// P13.1: worked out beforehand, outside the project, and the chapter's example.
func TestEvalWrittenOut(t *testing.T) {
	rising := make([]uint64, 100)
	for i := range rising {
		rising[i] = uint64(i)
	}
	for _, row := range []struct {
		p       []uint64
		x, want uint64
	}{
		{[]uint64{1, 2, 3}, 10, 321},
		{nil, 5, 0},
		{[]uint64{}, 0, 0},
		{[]uint64{7}, api.R - 1, 7},
		{[]uint64{7, 8, 9}, 0, 7},
		{[]uint64{7, 8, 9}, api.R, 7},
		{[]uint64{7, 8, 9}, 1, 24},
		{[]uint64{0, 0, 0, 1}, 2, 8},
		{[]uint64{api.R}, 1, 0},
		{[]uint64{5, api.R - 1, 0, 2}, api.R + 3, 56},
		{slices.Repeat([]uint64{api.R - 1}, 5), api.R - 1, api.R - 1},
		{[]uint64{math.MaxUint64, math.MaxUint64}, math.MaxUint64, 13793361328344889},
		{rising, 3, 185614215595856601},
	} {
		checkEval(t, row.p, row.x, row.want)
	}
}

// P13.1: at all edges, also with numbers that aren't below R.
func TestEval(t *testing.T) {
	for _, c := range edges() {
		for _, x := range edges() {
			checkEval(t, []uint64{c}, x, c%api.R)
			checkEval(t, []uint64{c, x}, c, plainEval([]uint64{c, x}, c))
			checkEval(t, []uint64{x, 0, c}, x, plainEval([]uint64{x, 0, c}, x))
		}
	}
	d := drawingBy(131)
	for range 500 {
		p, x := d.list(d.Intn(30)), d.word()
		checkEval(t, p, x, plainEval(p, x))
		checkEval(t, append(p, 0, api.R, 0), x, plainEval(p, x))
	}
	p := d.list(5000)
	checkEval(t, p, 3, plainEval(p, 3))
}

// P13.1: worked out beforehand, outside the project; the second one is the
// chapter's example.
func TestRootWrittenOut(t *testing.T) {
	for k, want := range []uint64{
		1, 288230376287764480, 263209301981812971, 283132296370611207, 42256743500835431, 64746875489180524, 198647839085578949,
		276491821258744972, 140110687054088192, 113062306606647315, 200255309773164274, 287766399503613863, 82461125143577982,
	} {
		if got, err := poly.Root(k); got != want || err != nil {
			t.Errorf("Root(%d) = %d, %v, want %d, nil", k, got, err, want)
		}
		if plainRoot(k) != want {
			t.Errorf("by math/big the root of %d is %d, want %d", k, plainRoot(k), want)
		}
	}
}

// P13.1: a root's power of 2^k is 1, and no lesser one is.
func TestRootsOrder(t *testing.T) {
	for k := range api.MaxDomain + 1 {
		w, err := poly.Root(k)
		if err != nil || power(w, 1<<k) != 1 {
			t.Errorf("Root(%d) = %d, %v, of which the power of 2^k isn't 1", k, w, err)
		}
		if k > 0 && power(w, 1<<(k-1)) != api.R-1 {
			t.Errorf("Root(%d) = %d, of which half the power isn't -1", k, w)
		}
	}
}

// P13.1, P13.2, P13.3, P13.4: of other exponents there is nothing, also where
// something else is wrong.
func TestNoExponents(t *testing.T) {
	d := drawingBy(132)
	lists := [][]uint64{nil, {1}, {1, 2}, vanishing(0), vanishing(1), d.list(1 << 12), d.list(1 << 13), d.list(1<<13 + 1), make([]uint64, 1<<14)}
	for _, k := range noExponents() {
		if w, err := poly.Root(k); w != 0 || err != api.ErrArg {
			t.Errorf("Root(%d) = %d, %v, want 0, ErrArg", k, w, err)
		}
		for _, l := range lists {
			got, err := poly.Forward(l, k)
			checkError(t, "Forward of no exponent", got, err, api.ErrArg)
			got, err = poly.Inverse(l, k)
			checkError(t, "Inverse of no exponent", got, err, api.ErrArg)
			got, err = poly.Vanish(l, k)
			checkError(t, "Vanish of no exponent", got, err, api.ErrArg)
		}
		for _, x := range []uint64{0, 1, 2, api.R, math.MaxUint64} {
			got, err := poly.Lagrange(k, x)
			checkError(t, "Lagrange of no exponent", got, err, api.ErrArg)
		}
	}
}

// P13.5: also what stands behind the list's end stays.
func TestEvalChangesNothing(t *testing.T) {
	all := []uint64{api.R + 1, 2, math.MaxUint64, 4, 5}
	before := slices.Clone(all)
	checkEval(t, all[:4], api.R+2, plainEval(before[:4], 2))
	if !slices.Equal(all, before) {
		t.Errorf("the list is %d, want %d", all, before)
	}
	all[0] = 3
	checkEval(t, all[:4], 2, plainEval(all[:4], 2))
}
