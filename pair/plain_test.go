package pair_test

import (
	"math/big"

	"obol/api"
)

// This is the chapter's pairing to the letter, by math/big: with all its
// walls, and with the last power taken in full. It calls no layer.

var (
	p = number(api.P)
	r = number(api.R)
)

func number(n uint64) *big.Int { return new(big.Int).SetUint64(n) }

func rest(n *big.Int) *big.Int { return new(big.Int).Mod(n, p) }

func plus(a, b *big.Int) *big.Int { return rest(new(big.Int).Add(a, b)) }

func less(a, b *big.Int) *big.Int { return rest(new(big.Int).Sub(a, b)) }

func times(a, b *big.Int) *big.Int { return rest(new(big.Int).Mul(a, b)) }

func over(a, b *big.Int) *big.Int { return times(a, new(big.Int).ModInverse(b, p)) }

// An element is the first number, and i times the second one.
type element struct{ first, second *big.Int }

func asElement(a api.E) element { return element{number(a[0]), number(a[1])} }

func (a element) told() api.E { return api.E{a.first.Uint64(), a.second.Uint64()} }

func (a element) times(b element) element {
	return element{
		less(times(a.first, b.first), times(a.second, b.second)),
		plus(times(a.first, b.second), times(a.second, b.first)),
	}
}

// by divides by a number without an i.
func (a element) by(n *big.Int) element {
	return element{over(a.first, n), over(a.second, n)}
}

func (a element) to(e *big.Int) element {
	power := asElement(one)
	for bit := e.BitLen() - 1; bit >= 0; bit-- {
		power = power.times(power)
		if e.Bit(bit) == 1 {
			power = power.times(a)
		}
	}
	return power
}

// lastPower is (P P - 1) / R.
func lastPower() *big.Int {
	e := new(big.Int).Mul(p, p)
	return e.Sub(e, number(1)).Div(e, r)
}

func opposite(a api.Pt) api.Pt {
	if a.Y != 0 {
		a.Y = api.P - a.Y
	}
	return a
}

// plainSlope is layer 3's l, of points whose sum isn't Inf.
func plainSlope(a, b api.Pt) *big.Int {
	if a == b {
		x := number(a.X)
		return over(plus(times(number(3), times(x, x)), number(1)), number(2*a.Y))
	}
	return over(less(number(a.Y), number(b.Y)), less(number(a.X), number(b.X)))
}

// plainSum is layer 3's sum.
func plainSum(a, b api.Pt) api.Pt {
	switch {
	case a.Inf:
		return b
	case b.Inf:
		return a
	case a == opposite(b):
		return inf
	}
	l := plainSlope(a, b)
	x := less(less(times(l, l), number(a.X)), number(b.X))
	y := less(times(l, less(number(a.X), x)), number(a.Y))
	return api.Pt{X: x.Uint64(), Y: y.Uint64()}
}

func plainWall(a, q api.Pt) *big.Int {
	if a.Inf {
		return number(1)
	}
	return less(less(number(0), number(q.X)), number(a.X))
}

func plainLine(a, b, q api.Pt) element {
	if a == opposite(b) {
		return element{plainWall(b, q), number(0)}
	}
	fall := times(plainSlope(a, b), plainWall(a, q))
	return element{less(less(number(0), number(a.Y)), fall), number(q.Y)}
}

func plainTurn(a, q api.Pt) element {
	f, t := asElement(one), a
	for bit := r.BitLen() - 2; bit >= 0; bit-- {
		double := plainSum(t, t)
		f = f.times(f).times(plainLine(t, t, q)).by(plainWall(double, q))
		t = double
		if r.Bit(bit) == 1 {
			sum := plainSum(t, a)
			f = f.times(plainLine(t, a, q)).by(plainWall(sum, q))
			t = sum
		}
	}
	return f
}

// plainPairing takes points of order R.
func plainPairing(a, q api.Pt) element {
	if a.Inf || q.Inf {
		return asElement(one)
	}
	return plainTurn(a, q).to(lastPower())
}
