package curve

import (
	"obol/api"
	"obol/words"
)

// The first byte tells whether there is more than it.
const (
	markInf   byte = 0
	markPoint byte = 1
)

const (
	sizeInf   = 1
	sizePoint = 1 + 2*words.Size
)

// Write is a point's bytes: P3.3.
func Write(a api.Pt) ([]byte, error) {
	if !Is(a) {
		return nil, api.ErrArg
	}
	if a.Inf {
		return []byte{markInf}, nil
	}
	return append([]byte{markPoint}, words.Bytes(a.X, a.Y)...), nil
}

// Read reads them: P3.3.
func Read(b []byte) (api.Pt, error) {
	switch {
	case len(b) == sizeInf && b[0] == markInf:
		return api.Pt{Inf: true}, nil
	case len(b) == sizePoint && b[0] == markPoint:
		return readPoint(b[1:])
	}
	return api.Pt{}, api.ErrForm
}

// readPoint takes the bytes of two numbers.
func readPoint(b []byte) (api.Pt, error) {
	a := api.Pt{X: words.Number(b[:words.Size]), Y: words.Number(b[words.Size:])}
	if !Is(a) {
		return api.Pt{}, api.ErrForm
	}
	return a, nil
}
