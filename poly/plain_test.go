package poly_test

import (
	"math"
	"math/big"
	"math/rand"

	"obol/api"
)

// This is the chapter to the letter, by math/big, which knows no rests by
// itself and no words that run over.

var modulus = new(big.Int).SetUint64(api.R)

func number(n uint64) *big.Int { return new(big.Int).SetUint64(n) }

func rest(n *big.Int) uint64 { return new(big.Int).Mod(n, modulus).Uint64() }

func product(l ...uint64) uint64 {
	all := big.NewInt(1)
	for _, n := range l {
		all.Mod(all.Mul(all, number(n)), modulus)
	}
	return all.Uint64()
}

func difference(a, b uint64) uint64 { return rest(new(big.Int).Sub(number(a), number(b))) }

func power(x, e uint64) uint64 {
	return new(big.Int).Exp(number(x), number(e), modulus).Uint64()
}

func opposite(n uint64) uint64 { return difference(0, n) }

// part is a divided by b, which isn't 0.
func part(a, b uint64) uint64 {
	return product(a, new(big.Int).ModInverse(number(b), modulus).Uint64())
}

func plainEval(p []uint64, x uint64) uint64 {
	all := new(big.Int)
	for i, c := range p {
		all.Add(all, new(big.Int).Mul(number(c), number(power(x, uint64(i)))))
	}
	return rest(all)
}

func plainRoot(k int) uint64 { return power(3, (api.R-1)/(1<<k)) }

func plainDomain(k int) []uint64 {
	l := make([]uint64, 1<<k)
	for i := range l {
		l[i] = power(plainRoot(k), uint64(i))
	}
	return l
}

func plainForward(p []uint64, k int) []uint64 {
	l := plainDomain(k)
	for i, x := range l {
		l[i] = plainEval(p, x)
	}
	return l
}

// plainLagrange goes by the product over all other places.
func plainLagrange(k int, x uint64) []uint64 {
	domain := plainDomain(k)
	l := make([]uint64, len(domain))
	for i, w := range domain {
		above, below := uint64(1), uint64(1)
		for j, v := range domain {
			if j != i {
				above, below = product(above, difference(x, v)), product(below, difference(w, v))
			}
		}
		l[i] = part(above, below)
	}
	return l
}

func plainShort(p []uint64) []uint64 {
	l := make([]uint64, len(p))
	last := 0
	for i, c := range p {
		l[i] = rest(number(c))
		if l[i] != 0 {
			last = i + 1
		}
	}
	return l[:last]
}

func plainMul(p, q []uint64) []uint64 {
	sums := make([]*big.Int, len(p)+len(q))
	for i := range sums {
		sums[i] = new(big.Int)
	}
	for i, a := range p {
		for j, b := range q {
			sums[i+j].Add(sums[i+j], new(big.Int).Mul(number(a), number(b)))
		}
	}
	l := make([]uint64, len(sums))
	for i, sum := range sums {
		l[i] = rest(sum)
	}
	return plainShort(l)
}

// plainVanish takes x^n - 1 away from the highest coefficient on, as often as
// that one is.
func plainVanish(p []uint64, k int) ([]uint64, bool) {
	left := plainShort(p)
	var quotient []uint64
	for i := len(left) - 1; i >= 1<<k; i-- {
		c := left[i]
		left[i], left[i-1<<k] = 0, difference(left[i-1<<k], opposite(c))
		quotient = append([]uint64{c}, quotient...)
	}
	return quotient, len(plainShort(left)) == 0
}

// vanishing is x^(2^k) - 1.
func vanishing(k int) []uint64 {
	l := make([]uint64, 1<<k+1)
	l[0], l[1<<k] = api.R-1, 1
	return l
}

// added is the polynomial with so much more of the coefficient at a place.
func added(p []uint64, at int, c uint64) []uint64 {
	l := make([]uint64, max(len(p), at+1))
	copy(l, p)
	l[at] = difference(l[at], opposite(c))
	return l
}

// edges are the numbers around those at which something ends.
func edges() []uint64 {
	l := []uint64{0, 1, 2, 5, 9, math.MaxUint64 - 1, math.MaxUint64, 1 << 58, 1 << 62, 1 << 63, 1<<63 + 1}
	for _, n := range []uint64{api.R / 2, api.R, 2 * api.R, 3 * api.R, 63 * api.R, api.S, api.P} {
		l = append(l, n-2, n-1, n, n+1, n+5)
	}
	return l
}

// noExponents are none of a domain, and neither are they of a word's half. Some
// have a root modulo R all the same.
func noExponents() []int {
	return []int{-1, -2, -12, -13, -64, 13, 14, 17, 18, 19, 24, 31, 32, 58, 59, 62, 63, 64, 65, 76, 128, 1 << 31, 1 << 32, 1<<32 + 1,
		1 << 62, math.MaxInt - 1, math.MaxInt, -1 << 31, -1 << 32, -1<<32 + 1, -1 << 62, math.MinInt, math.MinInt + 1}
}

// drawing is a drawer by a fixed seed.
type drawing struct{ *rand.Rand }

func drawingBy(seed int64) drawing { return drawing{rand.New(rand.NewSource(seed))} }

// word is a number of any length.
func (d drawing) word() uint64 { return d.Uint64() >> d.Intn(64) }

// list is one of words, of which some count as 0.
func (d drawing) list(size int) []uint64 {
	l := make([]uint64, size)
	for i := range l {
		l[i] = d.word()
		if d.Intn(5) == 0 {
			l[i] = uint64(d.Intn(3)) * api.R
		}
	}
	return l
}

// rests is a list of numbers below R.
func (d drawing) rests(size int) []uint64 {
	l := d.list(size)
	for i := range l {
		l[i] %= api.R
	}
	return l
}
