package poly_test

import (
	"math"
	"slices"
	"testing"

	"obol/api"
	"obol/poly"
)

func checkMul(t *testing.T, p, q, want []uint64) {
	t.Helper()
	checkList(t, "Mul", poly.Mul(p, q), nil, want)
	checkList(t, "Mul the other way round", poly.Mul(q, p), nil, want)
}

func checkVanish(t *testing.T, p []uint64, k int, want []uint64) {
	t.Helper()
	got, err := poly.Vanish(p, k)
	checkList(t, "Vanish", got, err, want)
}

func checkNotDivided(t *testing.T, p []uint64, k int) {
	t.Helper()
	got, err := poly.Vanish(p, k)
	checkError(t, "Vanish of what isn't divided", got, err, api.ErrWrong)
}

// P13.3: worked out beforehand, outside the project.
func TestMulWrittenOut(t *testing.T) {
	for _, row := range []struct{ p, q, want []uint64 }{
		{nil, nil, nil},
		{nil, []uint64{1, 2}, nil},
		{[]uint64{0}, []uint64{1, 2}, nil},
		{[]uint64{0, api.R, 2 * api.R}, []uint64{1, 2}, nil},
		{[]uint64{3}, []uint64{4}, []uint64{12}},
		{[]uint64{1}, []uint64{5, 6, 7}, []uint64{5, 6, 7}},
		{[]uint64{0, 1}, []uint64{5, 6, 7}, []uint64{0, 5, 6, 7}},
		{[]uint64{1, 2, 3}, []uint64{4, 5}, []uint64{4, 13, 22, 15}},
		{[]uint64{1, 2, 3, 0, 0}, []uint64{4, 5, api.R, 0}, []uint64{4, 13, 22, 15}},
		{[]uint64{api.R - 1, 1}, []uint64{1, 1}, []uint64{api.R - 1, 0, 1}},
		{[]uint64{api.R - 1, api.R - 1, api.R - 1}, []uint64{api.R - 1, api.R - 1}, []uint64{1, 2, 2, 1}},
		{[]uint64{math.MaxUint64, 1}, []uint64{0, 1 << 63}, []uint64{0, 151011868808054685, 288230371934076897}},
		{[]uint64{3, 0, api.R}, []uint64{0, 0, api.R - 1, 2 * api.R, 0}, []uint64{0, 0, api.R - 3}},
		{[]uint64{144115188075855872, 205891132094649}, []uint64{59604644775390625, 1},
			[]uint64{62039647211237491, 248528767809626753, 205891132094649}},
	} {
		checkMul(t, row.p, row.q, row.want)
	}
	got := poly.Mul(powersOf(3, 700), powersOf(5, 900))
	if len(got) != 1599 || got[0] != 1 || got[1] != 8 || got[1598] != 172593773193692381 || digest(got) != 61853698080996885 {
		t.Errorf("Mul(powers of 3, powers of 5) is %d of %d", head(got), len(got))
	}
}

// P13.3: of all sizes up to some, and at the edges of all domains.
func TestMul(t *testing.T) {
	d := drawingBy(142)
	for a := range 20 {
		for b := range a + 1 {
			p, q := d.list(a), d.list(b)
			checkMul(t, p, q, plainMul(p, q))
			p = slices.Repeat([]uint64{api.R - 1}, a)
			checkMul(t, p, q, plainMul(p, q))
		}
	}
	for _, c := range edges() {
		for _, other := range edges() {
			p, q := []uint64{other, c}, []uint64{c, 3, other}
			checkMul(t, p, q, plainMul(p, q))
		}
	}
	for _, size := range []int{31, 32, 33, 127, 128, 129, 256, 257} {
		for _, other := range []int{1, 2, size - 1, size, size + 1} {
			p, q := d.list(size), d.list(other)
			checkMul(t, p, q, plainMul(p, q))
		}
	}
}

// P13.3: with coefficients at both ends alone, which show each place, around
// the sizes of the widest domain and of all that there are modulo R.
func TestMulOfSparse(t *testing.T) {
	ends := func(first uint64, size int, last uint64) []uint64 {
		l := make([]uint64, size)
		l[0], l[size-1] = first, last
		return l
	}
	for _, sizes := range [][2]int{
		{1 << 11, 1 << 11}, {1<<11 + 1, 1 << 11}, {1 << 12, 1 << 12}, {1<<12 + 1, 1 << 12}, {1 << 13, 3},
		{1 << 17, 1 << 17}, {1<<17 + 1, 1 << 17}, {1<<17 + 2, 1 << 17}, {1 << 18, 2}, {1<<18 - 1, 2}, {1<<18 + 1, 1<<18 + 5}, {3<<18 + 7, 9},
	} {
		a, b := sizes[0], sizes[1]
		want := make([]uint64, a+b-1)
		want[0], want[a+b-2] = 3*7, 5*11
		want[a-1] += 5 * 7
		want[b-1] += 3 * 11
		checkMul(t, ends(3, a, 5), ends(7, b, 11), want)
	}
}

// P13.3: of so many coefficients that a domain of them isn't there, by values
// at some places.
func TestMulOfVeryMany(t *testing.T) {
	d := drawingBy(143)
	for _, sizes := range [][2]int{{1 << 17, 1<<17 + 1}, {200_001, 100_003}, {300_000, 70}, {1 << 19, 1}} {
		p, q := d.list(sizes[0]), d.list(sizes[1])
		p[len(p)-1], q[len(q)-1] = 5, 6
		got := poly.Mul(p, q)
		if len(got) != len(p)+len(q)-1 || got[len(got)-1] != 30 {
			t.Fatalf("Mul(of %d, of %d) is of %d", len(p), len(q), len(got))
		}
		for range 3 {
			x := d.word()
			if value, want := poly.Eval(got, x), product(poly.Eval(p, x), poly.Eval(q, x)); value != want {
				t.Errorf("Mul(of %d, of %d) has the value %d at %d, want %d", len(p), len(q), value, x, want)
			}
		}
	}
}

// P13.3: worked out beforehand, by hand.
func TestVanishWrittenOut(t *testing.T) {
	for _, row := range []struct {
		p    []uint64
		k    int
		want []uint64
	}{
		{nil, 0, nil},
		{nil, 12, nil},
		{[]uint64{0, 0, 0}, 1, nil},
		{[]uint64{api.R, 2 * api.R, 0, 0, 3 * api.R}, 1, nil},
		{[]uint64{api.R, 0}, 12, nil},
		{[]uint64{api.R - 1, 1}, 0, []uint64{1}},
		{[]uint64{api.R - 1, 1, 0, api.R}, 0, []uint64{1}},
		{[]uint64{5, api.R - 5}, 0, []uint64{api.R - 5}},
		{[]uint64{1, 2, 3, api.R - 6}, 0, []uint64{api.R - 1, api.R - 3, api.R - 6}},
		{[]uint64{api.R - 1, 0, 1}, 0, []uint64{1, 1}},
		{[]uint64{api.R - 1, 0, 1}, 1, []uint64{1}},
		{[]uint64{api.R - 1, 0, 0, 0, 0, 0, 0, 0, 1}, 2, []uint64{1, 0, 0, 0, 1}},
		{[]uint64{0, 0, api.R - 1, 0, 0, 0, 1}, 2, []uint64{0, 0, 1}},
		{[]uint64{api.R + 4, 0, math.MaxUint64 - math.MaxUint64%api.R - 4}, 1, []uint64{api.R - 4}},
	} {
		checkVanish(t, row.p, row.k, row.want)
	}
	for _, row := range []struct {
		p []uint64
		k int
	}{
		{[]uint64{1}, 0},
		{[]uint64{api.R - 1}, 3},
		{[]uint64{0, 1}, 0},
		{[]uint64{1, 1}, 0},
		{[]uint64{1, 2, 3}, 2},
		{[]uint64{api.R - 1, 1}, 1},
		{[]uint64{api.R - 1, 0, 1}, 2},
		{[]uint64{1, 0, 1}, 1},
		{[]uint64{api.R - 2, 0, 1}, 1},
		{[]uint64{api.R - 1, 1, 1}, 1},
		{[]uint64{api.R - 1, 0, 1, 1}, 1},
		{[]uint64{api.R - 1, 0, 0, 1, 0}, 2},
		{[]uint64{5, api.R - 6}, 0},
	} {
		checkNotDivided(t, row.p, row.k)
	}
}

// P13.3: of any sizes, with one coefficient too much at any place.
func TestVanish(t *testing.T) {
	d := drawingBy(144)
	for k := range 5 {
		for size := range 40 {
			q := d.list(size)
			p := plainMul(q, vanishing(k))
			checkVanish(t, p, k, plainShort(q))
			checkVanish(t, append(p, 0, 0, api.R), k, plainShort(q))
			for at := range len(p) + 3 {
				checkNotDivided(t, added(p, at, 1+d.word()%(api.R-1)), k)
			}
		}
	}
}

// P13.3: with any coefficients, also so few that all is left.
func TestVanishAsWritten(t *testing.T) {
	d := drawingBy(145)
	for range 2000 {
		k, p := d.Intn(4), d.list(d.Intn(20))
		for i := range p {
			p[i] %= 2
			p[i] += uint64(d.Intn(3)) * (api.R - 1)
		}
		if quotient, divided := plainVanish(p, k); divided {
			checkVanish(t, p, k, quotient)
		} else {
			checkNotDivided(t, p, k)
		}
	}
}

// P13.3: on the widest domains.
func TestVanishOnWideDomains(t *testing.T) {
	d := drawingBy(146)
	for k := 9; k <= api.MaxDomain; k++ {
		for _, size := range []int{1, 1 << k, 5000} {
			q := d.rests(size)
			q[size-1] = 8
			p := poly.Mul(q, vanishing(k))
			checkVanish(t, p, k, q)
			checkNotDivided(t, added(p, d.Intn(1<<k), 1), k)
			checkNotDivided(t, added(p, len(p)-1, 1), k)
		}
	}
}

// P13.6: a product's values are the values' products.
func TestProductsValues(t *testing.T) {
	d := drawingBy(147)
	for k := range api.MaxDomain + 1 {
		p, q := d.list(1<<k/2), d.list(1<<k/2+1)
		values, err := poly.Forward(poly.Mul(p, q), k)
		if err != nil {
			t.Fatal(err)
		}
		ofP, _ := poly.Forward(p, k)
		ofQ, _ := poly.Forward(q, k)
		for i := range values {
			if want := product(ofP[i], ofQ[i]); values[i] != want {
				t.Fatalf("on the domain of %d the product is %d at %d, want %d", k, values[i], i, want)
			}
		}
		x := d.word()
		checkEval(t, poly.Mul(p, q), x, product(plainEval(p, x), plainEval(q, x)))
	}
}

// P13.6: what is 0 on the domain is divided, and what isn't 0 at one place alone
// is not.
func TestDividedIfZeroOnTheDomain(t *testing.T) {
	d := drawingBy(148)
	for k := range 7 {
		first := d.list(3)
		first[2] = 1 + d.word()%(api.R-1)
		zero := first
		for _, w := range plainDomain(k) {
			zero = plainMul(zero, []uint64{opposite(w), 1})
		}
		checkVanish(t, zero, k, plainShort(first))
		for place := range 1 << k {
			values := make([]uint64, 1<<k)
			values[place] = 1 + d.word()%(api.R-1)
			p, err := poly.Inverse(values, k)
			if err != nil {
				t.Fatal(err)
			}
			checkNotDivided(t, p, k)
		}
	}
}

// P13.5: also what stands behind the list's end stays.
func TestProductsChangeAndKeepNothing(t *testing.T) {
	all := []uint64{api.R + 6, 5, 4, math.MaxUint64, 0, 9, 9}
	p, q := all[:5], []uint64{1, 0, api.R}
	before, other := slices.Clone(all), slices.Clone(q)
	for range 2 {
		got := poly.Mul(p, q)
		checkList(t, "Mul", got, nil, plainShort(before[:5]))
		if !slices.Equal(all, before) || !slices.Equal(q, other) {
			t.Fatalf("the lists are %d and %d, want %d and %d", all, q, before, other)
		}
		for i := range got {
			got[i] = 77
		}
		_ = append(got, 78, 79)
	}
	if !slices.Equal(all, before) || !slices.Equal(q, other) {
		t.Errorf("the lists became %d and %d, want %d and %d", all, q, before, other)
	}
	checkMul(t, p, p, plainMul(before[:5], before[:5]))
}

// P13.5: also what stands behind the list's end stays, whether it is divided or
// not.
func TestVanishChangesAndKeepsNothing(t *testing.T) {
	all := []uint64{api.R - 2, api.R - 3, 2*api.R + 2, 3, 0, api.R, 9, 9}
	before := slices.Clone(all)
	for range 2 {
		got, err := poly.Vanish(all[:6], 1)
		checkList(t, "Vanish", got, err, []uint64{2, 3})
		for i := range got {
			got[i] = 77
		}
		_ = append(got, 78, 79)
	}
	first, _ := poly.Vanish(all[:6], 1)
	for k := range api.MaxDomain + 1 {
		_, _ = poly.Vanish(all[:6], k)
		_, _ = poly.Vanish(all[:7], k)
	}
	if !slices.Equal(all, before) || !slices.Equal(first, []uint64{2, 3}) {
		t.Errorf("the list is %d, and the first quotient %d, want %d and 2 3", all, first, before)
	}
	all[3], all[1] = 5, api.R-5
	checkVanish(t, all[:6], 1, []uint64{2, 5})
	checkNotDivided(t, all[:7], 1)
}
