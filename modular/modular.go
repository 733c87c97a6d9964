// Package modular is layer 1: see shared/doc/01-modular.md.
package modular

import (
	"math/bits"

	"obol/api"
)

// A modulus of at most 62 bits keeps the sum of two rests within a word, and
// the numbers of Inv within a signed one.
const (
	least    uint64 = 2
	greatest uint64 = 1 << 62
)

// isModulus tells whether m counts as a modulus.
func isModulus(m uint64) bool { return least <= m && m <= greatest }

// rest is a's rest by m. Most numbers come from this package and are below m
// already: for them the comparison saves a division, which is far slower.
func rest(m, a uint64) uint64 {
	if a < m {
		return a
	}
	return a % m
}

// Add is a sum: P1.1.
func Add(m, a, b uint64) uint64 {
	if !isModulus(m) {
		return 0
	}
	return addRests(m, rest(m, a), rest(m, b))
}

// Sub is a difference: P1.1.
func Sub(m, a, b uint64) uint64 {
	if !isModulus(m) {
		return 0
	}
	return addRests(m, rest(m, a), m-rest(m, b))
}

// Mul is a product: P1.1.
func Mul(m, a, b uint64) uint64 {
	if !isModulus(m) {
		return 0
	}
	return mulRests(m, rest(m, a), rest(m, b))
}

// Pow is a power: P1.1.
func Pow(m, a, e uint64) uint64 {
	if !isModulus(m) {
		return 0
	}
	return powRest(m, rest(m, a), e)
}

// Inv is an inverse: P1.2.
func Inv(m, a uint64) (uint64, error) {
	if !isModulus(m) {
		return 0, api.ErrArg
	}
	divisor, x := euclid(m, rest(m, a))
	if divisor != 1 {
		return 0, api.ErrNone
	}
	return x, nil
}

// addRests takes numbers up to m, of which at most one is m itself.
func addRests(m, a, b uint64) uint64 {
	sum := a + b
	if sum >= m {
		sum -= m
	}
	return sum
}

// mulRests takes numbers below m: then the product's high word is below m
// too, and Div64 cannot panic.
func mulRests(m, a, b uint64) uint64 {
	hi, lo := bits.Mul64(a, b)
	_, left := bits.Div64(hi, lo, m)
	return left
}

// powRest takes an a below m.
func powRest(m, a, e uint64) uint64 {
	power := uint64(1)
	for ; e > 0; e >>= 1 {
		if e&1 == 1 {
			power = mulRests(m, power, a)
		}
		a = mulRests(m, a, a)
	}
	return power
}

// euclid answers the greatest common divisor of m and a, and the number below
// m whose product with a is that divisor modulo m. No factor on the way is
// ever further from 0 than m is, so that none overflows.
func euclid(m, a uint64) (uint64, uint64) {
	r, next := int64(m), int64(a)
	x, nextX := int64(0), int64(1)
	for next != 0 {
		q := r / next
		r, next = next, r-q*next
		x, nextX = nextX, x-q*nextX
	}
	if x < 0 {
		x += int64(m)
	}
	return uint64(r), uint64(x)
}
