package ext

import (
	"obol/api"
	"obol/words"
)

// isReduced tells whether both numbers are below P: bytes tell no others, so
// that an element has them in one way alone.
func isReduced(a api.E) bool { return a[0] < api.P && a[1] < api.P }

// Write is an element's bytes: P2.2.
func Write(a api.E) ([]byte, error) {
	if !isReduced(a) {
		return nil, api.ErrArg
	}
	return words.Bytes(a[0], a[1]), nil
}

// Read reads them: P2.2.
func Read(b []byte) (api.E, error) {
	if len(b) != 2*words.Size {
		return api.E{}, api.ErrForm
	}
	a := api.E{words.Number(b[:words.Size]), words.Number(b[words.Size:])}
	if !isReduced(a) {
		return api.E{}, api.ErrForm
	}
	return a, nil
}
