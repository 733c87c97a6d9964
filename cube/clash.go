package cube

import (
	"obol/api"
	"obol/modular"
)

// pair is what is hashed at a place: h and a number, both below R.
type pair struct{ h, n uint64 }

func (p pair) hash() uint64 { return Two(p.h, p.n) }

// Clash is two pairs with one hash, out of two lists with one: P10.3.
func Clash(a, b []uint64) (uint64, uint64, uint64, uint64, error) {
	if len(a) != len(b) {
		return 0, 0, 0, 0, api.ErrArg
	}
	ofA, ofB, ok := lastApart(a, b)
	if !ok {
		return 0, 0, 0, 0, api.ErrArg
	}
	return ofA.h, ofA.n, ofB.h, ofB.n, nil
}

// lastApart is the first place from the end at which the pairs of two lists of
// one length aren't the same. It goes from the beginning on, as each h hangs
// on what is ahead of it. It answers false if there is no such place, for then
// the lists are the same, or if they haven't one hash.
func lastApart(a, b []uint64) (pair, pair, bool) {
	var ofA, ofB pair
	apart := false
	h, g := first(a), first(b)
	for i := range a {
		p, q := pair{h, rest(a[i])}, pair{g, rest(b[i])}
		if p != q {
			ofA, ofB, apart = p, q, true
		}
		h, g = p.hash(), q.hash()
	}
	return ofA, ofB, apart && h == g
}

// rest is what a number counts as.
func rest(n uint64) uint64 { return modular.Add(api.R, n, 0) }
