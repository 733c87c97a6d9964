package rank_test

import (
	"math"
	"slices"
	"testing"

	"obol/api"
	"obol/rank"
)

func checkSum(t *testing.T, l, want []api.Term) {
	t.Helper()
	if got := rank.Sum(l); !slices.Equal(got, want) {
		t.Errorf("Sum(%v) = %v, want %v", l, got, want)
	}
}

// P11.3: worked out beforehand, outside the project.
func TestSumWrittenOut(t *testing.T) {
	for _, row := range []struct{ l, want []api.Term }{
		{nil, nil},
		{[]api.Term{}, nil},
		{[]api.Term{{V: 0, K: 0}}, nil},
		{[]api.Term{{V: 0, K: api.R}}, nil},
		{[]api.Term{{V: -1, K: 1}}, nil},
		{[]api.Term{{V: 5, K: 1}}, []api.Term{{V: 5, K: 1}}},
		{[]api.Term{{V: 5, K: api.R + 1}}, []api.Term{{V: 5, K: 1}}},
		{[]api.Term{{V: 3, K: 2}, {V: 1, K: 1}, {V: 3, K: api.R - 2}, {V: -1, K: 5}}, []api.Term{{V: 1, K: 1}}},
		// It is 0 twice on the way, and not at the end.
		{[]api.Term{{V: 3, K: 2}, {V: 1, K: 1}, {V: 3, K: api.R - 2}, {V: -1, K: 5}, {V: 3, K: 9}, {V: 3, K: api.R - 9}, {V: 3, K: 4}},
			[]api.Term{{V: 1, K: 1}, {V: 3, K: 4}}},
		{[]api.Term{{V: 2, K: api.R - 1}, {V: 2, K: api.R - 1}, {V: 2, K: api.R - 1}}, []api.Term{{V: 2, K: api.R - 3}}},
		{[]api.Term{{V: 4, K: math.MaxUint64}, {V: 0, K: math.MaxUint64}, {V: 4, K: math.MaxUint64}, {V: 0, K: math.MaxUint64}, {V: 4, K: math.MaxUint64}},
			[]api.Term{{V: 0, K: 288230358873014143}, {V: 4, K: 288230350165638974}}},
		{[]api.Term{{V: 9, K: 3}, {V: 8, K: 2}, {V: 7, K: 1}, {V: 8, K: 5}, {V: 9, K: 6}, {V: 7, K: 4}},
			[]api.Term{{V: 7, K: 5}, {V: 8, K: 7}, {V: 9, K: 9}}},
		{[]api.Term{{V: math.MaxInt, K: 1}, {V: 1 << 32, K: 2}, {V: 4096, K: 3}, {V: 4095, K: 4}, {V: 0, K: 5}, {V: -1, K: 6}, {V: -1 << 32, K: 7}, {V: math.MinInt, K: 8}},
			[]api.Term{{V: 0, K: 5}, {V: 4095, K: 4}, {V: 4096, K: 3}, {V: 1 << 32, K: 2}, {V: math.MaxInt, K: 1}}},
		{[]api.Term{{V: 0, K: api.S}, {V: 0, K: api.P}, {V: 1, K: api.P}, {V: 1, K: api.R - 3}},
			[]api.Term{{V: 0, K: 72057593894066548}, {V: 1, K: 288230376287764477}}},
		{[]api.Term{{V: 0, K: 1 << 63}, {V: 0, K: 1 << 63}, {V: 1, K: 1 << 63}},
			[]api.Term{{V: 0, K: 288230367580389313}, {V: 1, K: 288230371934076897}}},
	} {
		checkSum(t, row.l, row.want)
	}
}

// P11.3: at all edges of K.
func TestSumOfEdges(t *testing.T) {
	for _, k := range edges() {
		for _, n := range edges() {
			l := []api.Term{{V: 2, K: k}, {V: 1, K: n}, {V: 2, K: n}, {V: 0, K: 1}}
			checkSum(t, l[:1], plainSum(l[:1]))
			checkSum(t, l, plainSum(l))
			opposite := api.Term{V: 1, K: api.R - n%api.R}
			checkSum(t, append(l, opposite), plainSum(append(l, opposite)))
		}
	}
}

// checkValueStays asks for the value of a list, and of its sum.
func checkValueStays(t *testing.T, l []api.Term, values []uint64) {
	t.Helper()
	if got, want := rank.Value(rank.Sum(l), values), rank.Value(l, values); got != want {
		t.Errorf("by %d the value of %v is %d, and the one of its sum %d", values, l, want, got)
	}
}

// P11.3: whatever the values are, and however few or many.
func TestSumHasTheSameValue(t *testing.T) {
	d := drawingBy(116)
	for range 2000 {
		vars := 1 + d.Intn(9)
		l := d.terms(d.Intn(30), vars)
		checkSum(t, l, plainSum(l))
		for range 3 {
			values := make([]uint64, d.Intn(vars+4))
			for i := range values {
				values[i] = d.word()
			}
			checkValueStays(t, l, values)
		}
	}
}

// P11.3: of any number of terms, with few variables and with many.
func TestSumOfManyTerms(t *testing.T) {
	d := drawingBy(117)
	for _, vars := range []int{1, 2, 50, api.MaxVars, 1 << 40} {
		for _, size := range []int{10, 11, 12, 13, 14, 40, 50, 51, 257, 1000, 20000} {
			l := d.terms(size, vars)
			checkSum(t, l, plainSum(l))
		}
	}
}

// P11.3: the order of terms doesn't matter, and neither do Ks of 0 or variables
// below 0 that are put to them.
func TestSumInAnyOrder(t *testing.T) {
	d := drawingBy(118)
	for range 300 {
		l := d.terms(d.Intn(40), 6)
		want := rank.Sum(l)
		l = append(l, api.Term{V: 1 << 20}, api.Term{V: 2, K: api.R}, api.Term{V: -1 << 20, K: 3})
		for range 5 {
			d.Shuffle(len(l), func(i, j int) { l[i], l[j] = l[j], l[i] })
			checkSum(t, l, want)
		}
	}
}

// P11.3: a sum's sum is itself, and it may stand in a row.
func TestSumIsSound(t *testing.T) {
	d := drawingBy(119)
	for range 500 {
		vars := 3 + d.Intn(9)
		sum := rank.Sum(d.terms(d.Intn(30), vars-2))
		checkSum(t, sum, sum)
		for _, row := range inEach(sum) {
			checkSound(t, api.Rank{Vars: vars, Rows: []api.Row{row}})
		}
	}
	most := rising(api.MaxVars)
	checkSum(t, most, most)
	slices.Reverse(most)
	checkSum(t, most, rising(api.MaxVars))
}

// P11.4: also what stands behind the list's end stays.
func TestSumChangesAndKeepsNothing(t *testing.T) {
	all := []api.Term{{V: 3, K: api.R + 2}, {V: 1, K: 1}, {V: 3, K: 5}, {V: 0, K: 0}, {V: -1, K: 7}, {V: 0, K: 8}, {V: 0, K: 9}}
	before := slices.Clone(all)
	first := rank.Sum(all[:5])
	if !slices.Equal(all, before) {
		t.Errorf("the list is %v, want %v", all, before)
	}
	all[0].K, all[1].V = 9, 2
	if want := []api.Term{{V: 1, K: 1}, {V: 3, K: 7}}; !slices.Equal(first, want) {
		t.Errorf("the sum became %v, want %v", first, want)
	}
	checkSum(t, all[:5], []api.Term{{V: 2, K: 1}, {V: 3, K: 14}})
	checkSum(t, before[:5], first)
}

// P11.4: the answer is new memory, also where the list is its own sum.
func TestSumIsNewMemory(t *testing.T) {
	for size := range 20 {
		l := rising(size)
		first, second := rank.Sum(l), rank.Sum(l)
		for i := range first {
			first[i] = api.Term{V: -1, K: 77}
		}
		first = append(first, api.Term{V: -2, K: 1}, api.Term{V: -3, K: 2})
		if want := rising(size); !slices.Equal(l, want) || !slices.Equal(second, want) {
			t.Errorf("%v became %v, and its other sum %v, as %v was written", want, l, second, first)
		}
	}
}
