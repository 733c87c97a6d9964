package cube_test

import (
	"math"
	"math/big"
	"math/rand"

	"obol/api"
)

// This is the chapter to the letter, by math/big, which knows no rests by
// itself and no words that run over.

var modulus = new(big.Int).SetUint64(api.R)

func number(n uint64) *big.Int { return new(big.Int).SetUint64(n) }

func together(l ...*big.Int) *big.Int {
	all := new(big.Int)
	for _, n := range l {
		all.Add(all, n)
	}
	return all
}

func rest(n *big.Int) uint64 { return new(big.Int).Mod(n, modulus).Uint64() }

func plainTurn(k, x uint64) uint64 {
	key, turned, seven := number(k), number(x), big.NewInt(1)
	for range 3 {
		seven.Mul(seven, big.NewInt(7))
		all := together(turned, key, seven)
		cube := new(big.Int).Mul(all, all)
		turned.Mod(cube.Mul(cube, all), modulus)
	}
	return rest(together(turned, key))
}

func plainTwo(a, b uint64) uint64 {
	return rest(together(number(plainTurn(a, b)), number(a), number(b)))
}

func plainMany(l []uint64) uint64 {
	h := uint64(len(l))
	for _, n := range l {
		h = plainTwo(h, n)
	}
	return h
}

// place is what Clash answers.
type place struct{ hA, a, hB, b uint64 }

// plainClash goes through the places from the end, and works out each h anew.
func plainClash(a, b []uint64) (place, bool) {
	if len(a) != len(b) || plainMany(a) != plainMany(b) {
		return place{}, false
	}
	for i := len(a) - 1; i >= 0; i-- {
		p := place{uint64(len(a)), rest(number(a[i])), uint64(len(b)), rest(number(b[i]))}
		for k := range i {
			p.hA, p.hB = plainTwo(p.hA, a[k]), plainTwo(p.hB, b[k])
		}
		if p.hA != p.hB || p.a != p.b {
			return p, true
		}
	}
	return place{}, false
}

// edges are the numbers around those at which something ends.
func edges() []uint64 {
	l := []uint64{0, 1, 2, 5, 7, 9, 49, 343, math.MaxUint64 - 1, math.MaxUint64, 1 << 58, 1 << 62, 1 << 63}
	for _, n := range []uint64{api.R / 2, api.R, 2 * api.R, 3 * api.R, 63 * api.R, api.S, api.P} {
		l = append(l, n-343, n-49, n-7, n-2, n-1, n, n+1, n+7)
	}
	return l
}

// drawn are numbers by a fixed seed, of all lengths.
func drawn(seed int64, size int) []uint64 {
	draw := rand.New(rand.NewSource(seed))
	l := make([]uint64, size)
	for i := range l {
		l[i] = draw.Uint64() >> draw.Intn(64)
	}
	return l
}
