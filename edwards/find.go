package edwards

import (
	"obol/api"
	"obol/blake"
	"obol/words"
)

// maxTries is how many ks are tried: with one of two there is a point.
const maxTries = 128

// Find finds a point: P7.3.
func Find(tag string, n uint64) (api.Ed, error) {
	return search(tag, n, maxTries)
}

// search tries so many ks, from 0 on.
func search(tag string, n, tries uint64) (api.Ed, error) {
	for k := range tries {
		y, err := blake.Number(tag, words.Bytes(n, k), api.R)
		if err != nil {
			return api.Ed{}, err
		}
		if a, ok := fourfold(y); ok {
			return a, nil
		}
	}
	return api.Ed{}, api.ErrNone
}

// fourfold is a point of that Y, four times, and whether there is one that
// isn't 0. As there are 4 S points, it is of order S.
func fourfold(y uint64) (api.Ed, bool) {
	a, err := at(y)
	if err != nil {
		return api.Ed{}, false
	}
	a = Mul(a, 4)
	return a, a != zero()
}
