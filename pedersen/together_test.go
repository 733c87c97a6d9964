package pedersen

import (
	"testing"

	"obol/api"
	"obol/edwards"
)

// without answers bases of which those from a place on aren't there; beside
// the error stands a point, which must not be told.
func without(from uint64) func(uint64) (api.Ed, error) {
	return func(n uint64) (api.Ed, error) {
		if n >= from {
			return edwards.Gen(), api.ErrNone
		}
		return Base(n)
	}
}

// P8.2, R3: Base's error, if there is one. No place of a commitment is known
// to have none, so that the bases are handed in; a factor that is 0 asks for
// its base as well.
func TestTogetherWithoutABase(t *testing.T) {
	for _, factors := range [][]uint64{{5, 3, 4}, {0, 0, 0}, {api.S, 0, 1}} {
		for from := range uint64(len(factors)) {
			if got, err := together(without(from), factors); got != (api.Ed{}) || err != api.ErrNone {
				t.Errorf("without a base of %d: %v, %v, want the zero value, ErrNone", from, got, err)
			}
		}
		want, _ := Commit(factors[1:], factors[0])
		if got, err := together(without(uint64(len(factors))), factors); got != want || err != nil {
			t.Errorf("without a base that isn't asked for: %v, %v, want %v", got, err, want)
		}
	}
}

// P8.2: of several errors the first place's.
func TestTogetherTellsTheFirstError(t *testing.T) {
	base := func(n uint64) (api.Ed, error) {
		if n == 0 {
			return Base(n)
		}
		return api.Ed{}, api.Code(n)
	}
	if got, err := together(base, []uint64{1, 2, 3}); got != (api.Ed{}) || err != api.Code(1) {
		t.Errorf("together = %v, %v, want the zero value and the error of place 1", got, err)
	}
}
