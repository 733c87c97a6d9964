package rank

import (
	"cmp"
	"slices"

	"obol/api"
)

// Sum sums terms up: P11.3.
func Sum(l []api.Term) []api.Term {
	sum := make([]api.Term, 0, len(l))
	for _, i := range rising(l) {
		sum = joined(sum, l[i])
	}
	return sum
}

// rising are the places of the terms of l whose V is 0 at least, by rising V.
// Places are ordered, and not the terms, as l must stay as it is.
func rising(l []api.Term) []int {
	places := make([]int, 0, len(l))
	for i, t := range l {
		if t.V >= 0 {
			places = append(places, i)
		}
	}
	slices.SortFunc(places, func(i, j int) int { return cmp.Compare(l[i].V, l[j].V) })
	return places
}

// joined is the sum with a term whose V is its last one's, or a greater one. A
// term that becomes 0 goes at once: more of that V may yet begin it anew.
func joined(sum []api.Term, t api.Term) []api.Term {
	var k uint64
	if last := len(sum) - 1; last >= 0 && sum[last].V == t.V {
		k = sum[last].K
		sum = sum[:last]
	}
	k = add(k, t.K)
	if k == 0 {
		return sum
	}
	return append(sum, api.Term{V: t.V, K: k})
}
