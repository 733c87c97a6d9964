package poly

import (
	"math/bits"

	"obol/api"
	"obol/modular"
)

// widest is the greatest exponent of all domains that there are modulo R:
// R - 1 is divided by 2 so many times.
const widest = 18

// root takes an exponent up to widest. As NoRoot has no root, no lesser power
// of what comes of it than the one of 2^k is 1.
func root(k int) uint64 {
	return modular.Pow(api.R, api.NoRoot, (api.R-1)>>k)
}

// powers are the powers 0 to n - 1 of x.
func powers(x uint64, n int) []uint64 {
	l := make([]uint64, n)
	power := uint64(1)
	for i := range n {
		l[i] = power
		power = mul(power, x)
	}
	return l
}

// forward takes an exponent up to widest, and at most 2^k coefficients.
func forward(p []uint64, k int) []uint64 {
	return transform(p, k, root(k))
}

// inverse takes an exponent up to widest, and 2^k values. The values' own
// values at the powers of w turned about are the coefficients 2^k times, and
// (R - 1) / 2^k divides by -2^k.
func inverse(values []uint64, k int) []uint64 {
	about := modular.Pow(api.R, root(k), 1<<k-1)
	l := transform(values, k, about)
	share := modular.Sub(api.R, 0, (api.R-1)>>k)
	for i := range len(l) {
		l[i] = mul(l[i], share)
	}
	return l
}

// transform tells p's values at the powers 0 to 2^k - 1 of w, which must be 1
// by the power 2^k and by no lesser one.
func transform(p []uint64, k int, w uint64) []uint64 {
	values := scattered(p, k)
	factors := powers(w, 1<<k/2)
	for level := range k {
		join(values, factors, 1<<level)
	}
	return values
}

// scattered are 2^k coefficients, those of p and 0s behind them, each at the
// place whose bits are its own place's the other way round: so the even ones
// make the first half, the odd ones the second, and each half likewise.
func scattered(p []uint64, k int) []uint64 {
	l := make([]uint64, 1<<k)
	for i := range len(p) {
		at := bits.Reverse64(uint64(i)) >> (64 - k)
		l[at] = rest(p[i])
	}
	return l
}

// join makes of each two neighbouring pieces of half values the values of one
// polynomial on a domain twice as wide: the first piece is of its even
// coefficients, the second one of its odd ones. The factors are powers on the
// domain of all values, of which there are too many for a narrower one.
func join(values, factors []uint64, half int) {
	pieces := len(values) / (2 * half)
	for i := range pieces {
		even := values[2*half*i:][:half]
		odd := values[2*half*i+half:][:half]
		for j := range half {
			far := mul(odd[j], factors[j*pieces])
			even[j], odd[j] = add(even[j], far), sub(even[j], far)
		}
	}
}

// rest is by R.
func rest(a uint64) uint64 { return add(a, 0) }

// add is modulo R.
func add(a, b uint64) uint64 { return modular.Add(api.R, a, b) }

// sub is modulo R.
func sub(a, b uint64) uint64 { return modular.Sub(api.R, a, b) }

// mul is modulo R.
func mul(a, b uint64) uint64 { return modular.Mul(api.R, a, b) }
