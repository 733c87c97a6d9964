package edwards

import (
	"testing"

	"obol/api"
)

// P7.3: no tag and number are known by which 128 ks tell no point, so that the
// bound is held by a search that goes less far.
func TestSearchEnds(t *testing.T) {
	if maxTries != 128 {
		t.Errorf("%d ks are tried", maxTries)
	}
	const n, k = 121065, 18
	for tries := range uint64(k + 1) {
		if got, err := search("", n, tries); got != (api.Ed{}) || err != api.ErrNone {
			t.Errorf("with %d ks: %v, %v, want the zero value, ErrNone", tries, got, err)
		}
	}
	got, err := search("", n, k+1)
	if want, _ := Find("", n); got != want || err != nil {
		t.Errorf("with %d ks: %v, %v, want %v", k+1, got, err, want)
	}
}

// P7.3: nor is one known by which a k tells a point that is 0 four times.
func TestFourfoldIsNotZero(t *testing.T) {
	for _, y := range []uint64{0, 1, api.R - 1} {
		if _, err := at(y); err != nil {
			t.Errorf("there is no point of Y %d", y)
		}
		if got, ok := fourfold(y); ok {
			t.Errorf("a point of Y %d, four times, is taken: %v", y, got)
		}
	}
	if got, ok := fourfold(api.EdY); !ok || got != Mul(Gen(), 4) && got != Neg(Mul(Gen(), 4)) {
		t.Errorf("the first point, four times, is %v, %v", got, ok)
	}
}
