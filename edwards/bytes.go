package edwards

import (
	"obol/api"
	"obol/modular"
	"obol/words"
)

// odd stands beside Y where X is odd: R leaves that bit free, and as R is odd,
// one of X and R - X is.
const odd uint64 = 1 << 63

// Write is a point's bytes: P7.4.
func Write(a api.Ed) ([]byte, error) {
	if !Is(a) {
		return nil, api.ErrArg
	}
	if isOdd(a.X) {
		return words.Bytes(a.Y | odd), nil
	}
	return words.Bytes(a.Y), nil
}

// Read reads them: P7.4.
func Read(b []byte) (api.Ed, error) {
	if len(b) != words.Size {
		return api.Ed{}, api.ErrForm
	}
	n := words.Number(b)
	a, err := at(n &^ odd)
	if err != nil {
		return api.Ed{}, api.ErrForm
	}
	if isOdd(a.X) != (n&odd != 0) {
		// Of 0 this makes R, which is no point's X: as 0 isn't odd.
		a.X = api.R - a.X
	}
	if !Is(a) {
		return api.Ed{}, api.ErrForm
	}
	return a, nil
}

func isOdd(n uint64) bool { return n&1 == 1 }

// at is the point of that Y whose X isn't above R / 2, or ErrNone. What is
// divided by isn't 0, as EdD has no root and -1 has one. A y that isn't below
// R counts as its rest, but stays as it is.
func at(y uint64) (api.Ed, error) {
	square := times(y, y)
	x, err := modular.Root(over(minus(square, 1), plus(times(api.EdD, square), 1)))
	if err != nil {
		return api.Ed{}, err
	}
	return api.Ed{X: x, Y: y}, nil
}
