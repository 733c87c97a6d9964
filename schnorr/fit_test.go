package schnorr

import (
	"math"
	"testing"

	"obol/api"
)

// P9.2: Z may be 0, and may not be S. No key, nonce and message are known by
// which it is 0, so that only what comes ahead of the question can be asked.
func TestFitAtTheEndsOfZ(t *testing.T) {
	for _, a := range []api.Ed{zero(), firstTimes(1), firstTimes(7)} {
		for _, z := range []uint64{0, 1, api.S / 2, api.S - 1} {
			if s := (api.Sig{A: a, Z: z}); !fit(firstTimes(5), s) {
				t.Errorf("%v may not be", s)
			}
		}
		for _, z := range []uint64{api.S, api.S + 1, 2 * api.S, 256 * api.S, api.R, 1 << 63, math.MaxUint64} {
			if s := (api.Sig{A: a, Z: z}); fit(firstTimes(5), s) {
				t.Errorf("%v may be", s)
			}
		}
	}
}
