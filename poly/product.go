package poly

import (
	"math/bits"

	"obol/api"
)

// Mul is a product: P13.3.
func Mul(p, q []uint64) []uint64 {
	p, q = short(p), short(q)
	if len(p) == 0 || len(q) == 0 {
		return nil
	}
	// R is a prime, so that the product of the last coefficients isn't 0.
	product := make([]uint64, len(p)+len(q)-1)
	addProduct(product, p, q)
	return product
}

// Vanish is a quotient: P13.3.
func Vanish(p []uint64, k int) ([]uint64, error) {
	if !isDomain(k) {
		return nil, api.ErrArg
	}
	quotient, left := divided(p, 1<<k)
	if len(short(left)) > 0 {
		return nil, api.ErrWrong
	}
	return short(quotient), nil
}

// short is the list without the 0s at its end, in the same memory.
func short(p []uint64) []uint64 {
	for len(p) > 0 && rest(p[len(p)-1]) == 0 {
		p = p[:len(p)-1]
	}
	return p
}

// addProduct adds the product of two lists that have coefficients to the sum,
// which has as many at least. No domain is wide enough for the longest
// products: these are summed up of those of halves.
func addProduct(sum, p, q []uint64) {
	if len(p) < len(q) {
		p, q = q, p
	}
	if len(p)+len(q)-1 > 1<<widest {
		half := len(p) / 2
		addProduct(sum, p[:half], q)
		addProduct(sum[half:], p[half:], q)
		return
	}
	part := product(p, q)
	for i := range len(part) {
		sum[i] = add(sum[i], part[i])
	}
}

// product goes by the values on a domain that is wide enough for it.
func product(p, q []uint64) []uint64 {
	n := len(p) + len(q) - 1
	k := bits.Len(uint(n - 1))
	values, others := forward(p, k), forward(q, k)
	for i := range len(values) {
		values[i] = mul(values[i], others[i])
	}
	return inverse(values, k)[:n]
}

// divided answers what x^n - 1 divides p by, and what is left: from the
// highest coefficient on, each is the quotient's, and goes n places below.
func divided(p []uint64, n int) (quotient, left []uint64) {
	l := make([]uint64, len(p))
	for i := range len(p) {
		at := len(p) - 1 - i
		l[at] = rest(p[at])
		if at+n < len(p) {
			l[at] = add(l[at], l[at+n])
		}
	}
	n = min(n, len(l))
	return l[n:], l[:n]
}
