package poly_test

import (
	"math"
	"slices"
	"testing"

	"obol/api"
	"obol/poly"
)

func checkForward(t *testing.T, p []uint64, k int, want []uint64) {
	t.Helper()
	got, err := poly.Forward(p, k)
	checkList(t, "Forward", got, err, want)
}

func checkInverse(t *testing.T, values []uint64, k int, want []uint64) {
	t.Helper()
	got, err := poly.Inverse(values, k)
	checkList(t, "Inverse", got, err, want)
}

func checkLagrange(t *testing.T, k int, x uint64, want []uint64) {
	t.Helper()
	got, err := poly.Lagrange(k, x)
	checkList(t, "Lagrange", got, err, want)
}

// P13.2: worked out beforehand, outside the project.
func TestForwardWrittenOut(t *testing.T) {
	for _, row := range []struct {
		p    []uint64
		k    int
		want []uint64
	}{
		{nil, 0, []uint64{0}},
		{nil, 2, []uint64{0, 0, 0, 0}},
		{[]uint64{5}, 0, []uint64{5}},
		{[]uint64{math.MaxUint64}, 0, []uint64{288230367580389312}},
		{[]uint64{5}, 2, []uint64{5, 5, 5, 5}},
		{[]uint64{math.MaxUint64, api.R}, 1, []uint64{288230367580389312, 288230367580389312}},
		{[]uint64{7, 3}, 1, []uint64{10, 4}},
		{[]uint64{1, 2, 3}, 2, []uint64{6, 238188227675861459, 2, 50042148611903018}},
		{[]uint64{1, 2, 3, 4, 5}, 3, []uint64{15, 250911155456461470, 50042148611903023, 222756172353552706,
			3, 175423151283358424, 238188227675861464, 215600649769920827}},
		{[]uint64{0, 1}, 3, []uint64{1, 283132296370611207, 263209301981812971, 84042634552155638,
			288230376287764480, 5098079917153274, 25021074305951510, 204187741735608843}},
	} {
		checkForward(t, row.p, row.k, row.want)
	}
	got, err := poly.Forward(powersOf(7, 1<<12), 12)
	if err != nil || len(got) != 1<<12 || got[0] != 59900002189913492 || got[1] != 214443707273093626 ||
		got[1<<12-1] != 108487326964760852 || digest(got) != 169112183743146253 {
		t.Errorf("Forward(powers of 7; 12) is %d, %v", head(got), err)
	}
}

// P13.2: worked out beforehand, outside the project.
func TestInverseWrittenOut(t *testing.T) {
	for _, row := range []struct {
		values []uint64
		k      int
		want   []uint64
	}{
		{[]uint64{0}, 0, []uint64{0}},
		{[]uint64{math.MaxUint64}, 0, []uint64{288230367580389312}},
		{[]uint64{10, 4}, 1, []uint64{7, 3}},
		{[]uint64{api.R - 1, math.MaxUint64}, 1, []uint64{288230371934076896, 4353687584}},
		{[]uint64{5, 5, 5, 5}, 2, []uint64{5, 0, 0, 0}},
		{[]uint64{1, 2, 3, 4}, 2, []uint64{144115188143882243, 131604650990906485, 144115188143882240, 156625725296857995}},
		{[]uint64{0, 1, 0, 0, 0, 0, 0, 0}, 3, []uint64{252201579251793921, 205667452896803906, 75185228360185059, 216810042205467520,
			36028797035970560, 82562923390960575, 213045147927579422, 71420334082296961}},
	} {
		checkInverse(t, row.values, row.k, row.want)
	}
	got, err := poly.Inverse(powersOf(11, 1<<12), 12)
	if err != nil || len(got) != 1<<12 || got[0] != 108699065043430569 || got[1] != 179368023362542638 ||
		got[1<<12-1] != 94723321928195708 || digest(got) != 13452153537298308 {
		t.Errorf("Inverse(powers of 11; 12) is %d, %v", head(got), err)
	}
}

// P13.2: at all edges, on all domains but the widest ones; of all sizes that
// are few enough. What has these values is one polynomial alone, as it has no
// more coefficients than there are values.
func TestForwardAndInverse(t *testing.T) {
	d := drawingBy(133)
	checkBoth := func(p []uint64, k int) {
		t.Helper()
		values := plainForward(p, k)
		checkForward(t, p, k, values)
		full := make([]uint64, 1<<k)
		copy(full, plainShort(p))
		checkInverse(t, values, k, full)
		// Numbers count as their rests.
		values[d.Intn(len(values))] += api.R
		checkInverse(t, values, k, full)
	}
	for _, c := range edges() {
		checkBoth([]uint64{c}, 0)
		for _, other := range edges() {
			checkBoth([]uint64{c, other}, 1)
		}
	}
	for k := range 5 {
		for size := range 1<<k + 1 {
			checkBoth(d.list(size), k)
			checkBoth(make([]uint64, size), k)
		}
	}
	for k := 5; k < 9; k++ {
		for _, size := range []int{1<<k - 1, 1 << k, 1<<(k-1) + 1} {
			checkBoth(d.list(size), k)
		}
	}
}

// P13.2: on the widest domains, at some places.
func TestForwardOnWideDomains(t *testing.T) {
	d := drawingBy(134)
	for k := 9; k <= api.MaxDomain; k++ {
		for _, size := range []int{1, 1<<k - 1, 1 << k} {
			p := d.list(size)
			got, err := poly.Forward(p, k)
			if err != nil || len(got) != 1<<k {
				t.Fatalf("Forward(of %d; %d) is of %d, %v", size, k, len(got), err)
			}
			for _, i := range []int{0, 1, 2, 3, 1 << (k - 1), 1<<k - 1, d.Intn(1 << k), d.Intn(1 << k)} {
				if want := plainEval(p, power(plainRoot(k), uint64(i))); got[i] != want {
					t.Errorf("Forward(of %d; %d) is %d at %d, want %d", size, k, got[i], i, want)
				}
			}
		}
	}
}

// P13.2: one coefficient more than there are places, though it counts as 0.
func TestForwardOfTooMany(t *testing.T) {
	d := drawingBy(135)
	for k := range api.MaxDomain + 1 {
		for _, size := range []int{1<<k + 1, 1<<k + 2, 1 << (k + 1), 1<<(k+1) + 1, 1 << 14} {
			for _, p := range [][]uint64{d.list(size), make([]uint64, size), slices.Repeat([]uint64{api.R}, size)} {
				got, err := poly.Forward(p, k)
				checkError(t, "Forward of too many", got, err, api.ErrArg)
			}
		}
	}
}

// P13.2: one value too few, or too many, though it counts as 0.
func TestInverseOfOtherSizes(t *testing.T) {
	d := drawingBy(136)
	for k := range api.MaxDomain + 1 {
		for _, size := range []int{0, 1, 1<<k - 1, 1<<k + 1, 1 << (k + 1), 1 << k / 2, 1 << 14} {
			if size == 1<<k {
				continue
			}
			for _, values := range [][]uint64{d.list(size), make([]uint64, size), slices.Repeat([]uint64{api.R}, size)} {
				got, err := poly.Inverse(values, k)
				checkError(t, "Inverse of another size", got, err, api.ErrArg)
			}
		}
	}
}

// P13.4: worked out beforehand, outside the project; some x are of the domain.
func TestLagrangeWrittenOut(t *testing.T) {
	for _, row := range []struct {
		k    int
		x    uint64
		want []uint64
	}{
		{0, 0, []uint64{1}},
		{0, 1, []uint64{1}},
		{0, 9, []uint64{1}},
		{1, 5, []uint64{3, api.R - 2}},
		{1, 1, []uint64{1, 0}},
		{1, api.R - 1, []uint64{0, 1}},
		{2, 7, []uint64{100, 204072768602188996, 288230376287764406, 84157607685575461}},
		{2, 0, slices.Repeat([]uint64{216172782215823361}, 4)},
		{2, api.R, slices.Repeat([]uint64{216172782215823361}, 4)},
		{2, 1, []uint64{1, 0, 0, 0}},
		{2, api.R + 263209301981812971, []uint64{0, 1, 0, 0}},
		{2, 25021074305951510, []uint64{0, 0, 0, 1}},
		{3, api.R - 1, []uint64{0, 0, 0, 0, 1, 0, 0, 0}},
		{3, math.MaxUint64, []uint64{206000380624926843, 286210152808932211, 123206631783919424, 228977197771921809,
			164032412020401109, 98643498456540238, 13230281319541234, 32620950364875057}},
	} {
		checkLagrange(t, row.k, row.x, row.want)
	}
	got, err := poly.Lagrange(12, 123456789)
	if err != nil || len(got) != 1<<12 || got[0] != 74054356983031747 || got[1] != 94438598240819265 ||
		got[1<<12-1] != 144630390159743667 || digest(got) != 172808873720549218 {
		t.Errorf("Lagrange(12, 123456789) is %d, %v", head(got), err)
	}
}

// P13.4: at all edges.
func TestLagrange(t *testing.T) {
	d := drawingBy(137)
	for k := range 6 {
		for _, x := range append(edges(), d.list(10)...) {
			checkLagrange(t, k, x, plainLagrange(k, x))
		}
	}
}

// P13.4: at the places of a domain itself all are 0 but one, which is 1.
func TestLagrangeOnTheDomain(t *testing.T) {
	d := drawingBy(138)
	for k := range api.MaxDomain + 1 {
		for _, i := range []int{0, 1 << k / 2, 1<<k - 1, d.Intn(1 << k), d.Intn(1 << k), d.Intn(1 << k)} {
			x := power(plainRoot(k), uint64(i))
			want := make([]uint64, 1<<k)
			want[i] = 1
			checkLagrange(t, k, x, want)
			checkLagrange(t, k, x+api.R, want)
		}
	}
}

// P13.4: with a polynomial's values they sum up to its value at x.
func TestLagrangeSumsUp(t *testing.T) {
	d := drawingBy(139)
	for k := range api.MaxDomain + 1 {
		p, x := d.list(1<<k), d.word()
		values, err := poly.Forward(p, k)
		if err != nil {
			t.Fatal(err)
		}
		base, err := poly.Lagrange(k, x)
		if err != nil || len(base) != 1<<k {
			t.Fatalf("Lagrange(%d, %d) is of %d, %v", k, x, len(base), err)
		}
		var sum uint64
		for i := range base {
			sum = difference(sum, opposite(product(base[i], values[i])))
		}
		checkEval(t, p, x, sum)
	}
}

// P13.6: whatever the numbers are, on all domains.
func TestEachUndoesTheOther(t *testing.T) {
	d := drawingBy(140)
	for k := range api.MaxDomain + 1 {
		for range 4 {
			l := d.rests(1 << k)
			values, err := poly.Forward(l, k)
			if err != nil {
				t.Fatal(err)
			}
			checkInverse(t, values, k, l)
			p, err := poly.Inverse(l, k)
			if err != nil {
				t.Fatal(err)
			}
			checkForward(t, p, k, l)
		}
	}
}

// P13.5: also what stands behind the list's end stays, and first answers stay
// as they were when more is asked.
func TestDomainsChangeAndKeepNothing(t *testing.T) {
	for k := range 5 {
		all := drawingBy(141).list(1<<k + 3)
		before := slices.Clone(all)
		calls := []func() []uint64{
			func() []uint64 { l, _ := poly.Forward(all[:1<<k], k); return l },
			func() []uint64 { l, _ := poly.Inverse(all[:1<<k], k); return l },
			func() []uint64 { l, _ := poly.Lagrange(k, all[0]); return l },
		}
		for at, call := range calls {
			first := call()
			want := slices.Clone(first)
			if !slices.Equal(all, before) {
				t.Fatalf("by call %d the list is %d, want %d", at, all, before)
			}
			all[0]++
			call()
			if !slices.Equal(first, want) {
				t.Errorf("by call %d the first answer became %d, want %d", at, first, want)
			}
			all[0]--
			for i := range first {
				first[i] = 77
			}
			_ = append(first, 78, 79)
			if second := call(); !slices.Equal(all, before) || !slices.Equal(second, want) {
				t.Errorf("call %d is %d of %d, want %d of %d", at, second, all, want, before)
			}
		}
	}
}
