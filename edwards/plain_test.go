package edwards_test

import (
	"encoding/binary"
	"math"
	"math/big"
	"math/rand"

	"obol/api"
	"obol/blake"
)

// This is the chapter to the letter, by math/big. But for the hash, which has
// tests of its own, it calls no layer.

var (
	zero = api.Ed{Y: 1}
	// half is 0 twice.
	half = api.Ed{Y: api.R - 1}
	gen  = api.Ed{X: api.EdX, Y: api.EdY}
	r    = number(api.R)
)

func number(n uint64) *big.Int { return new(big.Int).SetUint64(n) }

func product(l ...*big.Int) *big.Int {
	n := big.NewInt(1)
	for _, x := range l {
		n.Mul(n, x)
	}
	return n
}

// quotient is a / b modulo R.
func quotient(a, b *big.Int) uint64 {
	b = new(big.Int).ModInverse(new(big.Int).Mod(b, r), r)
	n := product(a, b)
	return n.Mod(n, r).Uint64()
}

// fits tells whether the numbers are of a point, if they are below R.
func fits(a api.Ed) bool {
	xx, yy := product(number(a.X), number(a.X)), product(number(a.Y), number(a.Y))
	left := new(big.Int).Sub(yy, xx)
	right := product(number(api.EdD), xx, yy)
	right.Add(right, big.NewInt(1))
	return left.Sub(left, right).Mod(left, r).Sign() == 0
}

// at is the point of that Y whose X isn't above R / 2, if there is one.
func at(y uint64) (api.Ed, bool) {
	yy := product(number(y), number(y))
	bottom := product(number(api.EdD), yy)
	square := number(quotient(yy.Sub(yy, big.NewInt(1)), bottom.Add(bottom, big.NewInt(1))))
	root := new(big.Int).ModSqrt(square, r)
	if root == nil {
		return api.Ed{}, false
	}
	x := root.Uint64()
	if x > api.R/2 {
		x = api.R - x
	}
	return api.Ed{X: x, Y: y}, true
}

func opposite(a api.Ed) api.Ed {
	if a.X != 0 {
		a.X = api.R - a.X
	}
	return a
}

func plainSum(a, b api.Ed) api.Ed {
	x, y, x2, y2 := number(a.X), number(a.Y), number(b.X), number(b.Y)
	k := product(big.NewInt(439), x, x2, y, y2)
	top := product(x, y2)
	top.Add(top, product(y, x2))
	side := product(y, y2)
	side.Add(side, product(x, x2))
	one := big.NewInt(1)
	return api.Ed{X: quotient(top, new(big.Int).Add(one, k)), Y: quotient(side, new(big.Int).Sub(one, k))}
}

// plainMultiple goes from the highest bit on.
func plainMultiple(a api.Ed, k uint64) api.Ed {
	total := zero
	for bit := 63; bit >= 0; bit-- {
		total = plainSum(total, total)
		if k>>bit&1 == 1 {
			total = plainSum(total, a)
		}
	}
	return total
}

// plainFind also tells k.
func plainFind(tag string, n uint64) (api.Ed, uint64) {
	for k := uint64(0); ; k++ {
		laid := binary.BigEndian.AppendUint64(binary.BigEndian.AppendUint64(nil, n), k)
		y, err := blake.Number(tag, laid, api.R)
		if err != nil {
			panic(err)
		}
		a, ok := at(y)
		if !ok {
			continue
		}
		if a = plainMultiple(a, 4); a != zero {
			return a, k
		}
	}
}

// plainBytes lays down any two numbers as if they were a point's.
func plainBytes(a api.Ed) []byte {
	n := a.Y
	if a.X%2 == 1 {
		n += 1 << 63
	}
	return binary.BigEndian.AppendUint64(nil, n)
}

// quarter is a point whose double is half: its Y is 0.
func quarter() api.Ed {
	a, ok := at(0)
	if !ok {
		panic("there is no point of Y 0")
	}
	return a
}

// drawn are n points by a fixed seed, of all orders.
func drawn(n int) []api.Ed {
	draw := rand.New(rand.NewSource(7))
	var l []api.Ed
	for len(l) < n {
		a, ok := at(draw.Uint64() % api.R)
		if !ok {
			continue
		}
		if draw.Intn(2) == 1 {
			a = opposite(a)
		}
		l = append(l, a)
	}
	return l
}

// points are those with few multiples, the first one and its neighbours, those
// of the least and the greatest Ys, and some that are drawn.
func points() []api.Ed {
	four := quarter()
	l := []api.Ed{zero, half, four, opposite(four), gen, opposite(gen), plainSum(gen, gen),
		plainSum(gen, half), plainSum(gen, four), plainSum(gen, opposite(four))}
	for y := uint64(2); y < 20; y++ {
		for _, y := range []uint64{y, api.R - y} {
			if a, ok := at(y); ok {
				l = append(l, a, opposite(a))
			}
		}
	}
	return append(l, drawn(30)...)
}

// others are no points: some would be if their numbers counted as rests, or if
// X and Y changed places.
func others() []api.Ed {
	four := quarter()
	return []api.Ed{
		{}, {X: 1}, {X: 1, Y: 1}, {X: api.R - 1}, {X: api.R - 1, Y: 1}, {Y: 2}, {Y: api.R - 2},
		{X: api.EdX, Y: api.EdY + 1}, {X: api.EdX + 1, Y: api.EdY}, {X: api.EdY, Y: api.EdX},
		{X: api.R}, {Y: api.R}, {X: api.R, Y: api.R},
		{X: api.R, Y: 1}, {Y: api.R + 1}, {X: api.R, Y: api.R + 1}, {X: 63 * api.R, Y: 1}, {Y: 63*api.R + 1},
		{X: api.R, Y: api.R - 1}, {Y: 2*api.R - 1}, {X: four.X + api.R}, {X: four.X, Y: api.R},
		{X: api.EdX + api.R, Y: api.EdY}, {X: api.EdX, Y: api.EdY + api.R},
		{X: api.EdX + 3*api.R, Y: api.EdY + 3*api.R},
		{X: api.EdX, Y: api.EdY | 1<<63}, {Y: 1<<63 + 1},
		{X: math.MaxUint64, Y: math.MaxUint64}, {X: math.MaxUint64}, {Y: math.MaxUint64}, {X: math.MaxUint64, Y: 1},
	}
}
