package modular

import (
	"math/bits"

	"obol/api"
)

// Root is a root modulo R: P1.3.
func Root(a uint64) (uint64, error) {
	a = rest(api.R, a)
	if a == 0 {
		return 0, nil
	}
	if powRest(api.R, a, (api.R-1)/2) != 1 {
		return 0, api.ErrNone
	}
	x := someRoot(a)
	return min(x, api.R-x), nil
}

// someRoot is a root of an a that has one and isn't 0, by the way of Tonelli
// and Shanks: x times x is always a times over. Each round halves what the
// order of over, a power of 2, may be, till over can only be 1.
func someRoot(a uint64) uint64 {
	const m = api.R
	twos := bits.TrailingZeros64(m - 1)
	odd := (m - 1) >> twos
	x := powRest(m, a, (odd+1)/2)
	over := powRest(m, a, odd)
	step := powRest(m, api.NoRoot, odd)
	for k := twos - 1; k > 0; k-- {
		next := mulRests(m, step, step)
		if powRest(m, over, 1<<(k-1)) != 1 {
			x = mulRests(m, x, step)
			over = mulRests(m, over, next)
		}
		step = next
	}
	return x
}
