package schnorr_test

import (
	"encoding/binary"
	"math"
	"math/rand"

	"obol/api"
	"obol/blake"
	"obol/edwards"
	"obol/modular"
)

// This is the chapter to the letter, upon the layers below, which have tests
// of their own.

var (
	zero = api.Ed{Y: 1}
	// half is 0 twice.
	half = api.Ed{Y: api.R - 1}
	// quarter is half twice.
	quarter = api.Ed{X: 25021074305951510}
)

// multiple is the first point, k times.
func multiple(k uint64) api.Ed { return edwards.Mul(edwards.Gen(), k) }

// plainBytes lays down any two numbers as if they were a point's.
func plainBytes(a api.Ed) []byte {
	n := a.Y
	if a.X%2 == 1 {
		n += 1 << 63
	}
	return binary.BigEndian.AppendUint64(nil, n)
}

// hashed is the question of points that were laid down already.
func hashed(points, msg []byte) uint64 {
	all := make([]byte, len(points)+len(msg))
	copy(all[copy(all, points):], msg)
	q, err := blake.Number("schnorr", all, api.S)
	if err != nil {
		panic(err)
	}
	return q
}

func question(a, k api.Ed, msg []byte) uint64 {
	return hashed(append(plainBytes(a), plainBytes(k)...), msg)
}

// answered is the Z of a nonce, a question and a key.
func answered(n, q, k uint64) uint64 {
	return modular.Add(api.S, n, modular.Mul(api.S, q, k))
}

func signature(k, n uint64, msg []byte) api.Sig {
	a := multiple(n)
	return api.Sig{A: a, Z: answered(n, question(a, multiple(k), msg), k)}
}

// balances tells whether the first point, Z times, is A and so often K. It
// asks nothing else, and what is no point counts as 0 in it.
func balances(p api.Ed, q uint64, s api.Sig) bool {
	return multiple(s.Z) == edwards.Add(s.A, edwards.Mul(p, q))
}

// rising are the bytes 0, 1, 2 and so on, modulo 256.
func rising(n int) []byte {
	b := make([]byte, n)
	for k := range b {
		b[k] = byte(k)
	}
	return b
}

// keys are the least and the greatest ones, and some by a fixed seed.
func keys(n int) []uint64 {
	l := []uint64{1, 2, 3, 5, api.S / 2, api.S/2 + 1, api.S - 2, api.S - 1}
	draw := rand.New(rand.NewSource(9))
	for range n {
		l = append(l, 1+draw.Uint64()%(api.S-1))
	}
	return l
}

// noKeys are no keys: most would be if they counted as rests by S.
func noKeys() []uint64 {
	return []uint64{0, api.S, api.S + 1, api.S + 5, 2 * api.S, 2*api.S + 1, 255*api.S + 5, 256 * api.S,
		api.R, api.R + 1, api.P, 1 << 56, 1 << 62, 1 << 63, 1<<63 + 5, math.MaxUint64 - 4, math.MaxUint64}
}

// otherOrders are points that aren't of order S: those with few multiples, and
// points of order S with one of them.
func otherOrders() []api.Ed {
	back := edwards.Neg(quarter)
	return []api.Ed{
		half, quarter, back,
		edwards.Add(multiple(1), half), edwards.Add(multiple(1), quarter), edwards.Add(multiple(1), back),
		edwards.Add(multiple(5), half), edwards.Add(multiple(14), quarter),
	}
}

// noPoints count as 0 elsewhere. Some would be points if their numbers counted
// as rests, or if X and Y changed places.
func noPoints() []api.Ed {
	g := edwards.Gen()
	return []api.Ed{
		{}, {X: 1}, {X: 1, Y: 1}, {Y: 2}, {Y: api.R}, {X: api.R, Y: 1}, {Y: api.R + 1}, {X: api.R, Y: api.R + 1},
		{X: 63 * api.R, Y: 1}, {Y: 63*api.R + 1}, {Y: 1<<63 + 1},
		{X: g.X + api.R, Y: g.Y}, {X: g.X, Y: g.Y + api.R}, {X: g.X, Y: g.Y | 1<<63}, {X: g.Y, Y: g.X},
		{X: g.X + 1, Y: g.Y}, {X: g.X, Y: g.Y + 1},
		{X: math.MaxUint64, Y: math.MaxUint64}, {X: math.MaxUint64, Y: 1}, {Y: math.MaxUint64},
	}
}

// strangers are no points of order S.
func strangers() []api.Ed { return append(otherOrders(), noPoints()...) }
