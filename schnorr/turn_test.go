package schnorr_test

import (
	"math"
	"math/rand"
	"testing"

	"obol/api"
	"obol/edwards"
	"obol/modular"
	"obol/schnorr"
)

// notBelow are no numbers that something is turned by. With some of them the
// sum with a small key would be 0 in a word.
func notBelow() []uint64 { return noKeys()[1:] }

func checkTurn(t *testing.T, k, by, want uint64, wantErr error) {
	t.Helper()
	if got, err := schnorr.Turn(k, by); got != want || err != wantErr {
		t.Errorf("Turn(%d, %d) = %d, %v, want %d, %v", k, by, got, err, want, wantErr)
	}
}

func checkTurnPoint(t *testing.T, p api.Ed, by uint64, want api.Ed) {
	t.Helper()
	if got, err := schnorr.TurnPoint(p, by); got != want || err != nil {
		t.Errorf("TurnPoint(%v, %d) = %v, %v, want %v", p, by, got, err, want)
	}
}

// P9.3: t may be 0; the sum goes around at S.
func TestTurnWrittenOut(t *testing.T) {
	checkTurn(t, 5, 9, 14, nil)
	checkTurn(t, 5, 0, 5, nil)
	checkTurn(t, 5, 5, 10, nil)
	checkTurn(t, 1, api.S-2, api.S-1, nil)
	checkTurn(t, 2, api.S-1, 1, nil)
	checkTurn(t, 5, api.S-6, api.S-1, nil)
	checkTurn(t, 5, api.S-4, 1, nil)
	checkTurn(t, api.S-1, 0, api.S-1, nil)
	checkTurn(t, api.S-1, 2, 1, nil)
	checkTurn(t, api.S-1, api.S-1, api.S-2, nil)
}

// P9.3
func TestTurn(t *testing.T) {
	draw := rand.New(rand.NewSource(93))
	for _, k := range keys(100) {
		for range 20 {
			by := draw.Uint64() % api.S
			if want := modular.Add(api.S, k, by); want != 0 {
				checkTurn(t, k, by, want, nil)
			}
		}
	}
}

// P9.3, R3
func TestTurnToZero(t *testing.T) {
	for _, k := range keys(50) {
		checkTurn(t, k, api.S-k, 0, api.ErrZero)
	}
}

// P9.3, R1, R3: also where the sum of both is 0, or a key.
func TestTurnOfNoKeyOrByTooMuch(t *testing.T) {
	for _, k := range noKeys() {
		for _, by := range []uint64{0, 1, 9, api.S - 1, api.S - 5, -k % api.S} {
			checkTurn(t, k, by, 0, api.ErrArg)
		}
		for _, by := range notBelow() {
			checkTurn(t, k, by, 0, api.ErrArg)
		}
		checkTurn(t, k, -k, 0, api.ErrArg)
	}
	for _, k := range keys(5) {
		for _, by := range notBelow() {
			checkTurn(t, k, by, 0, api.ErrArg)
		}
		for _, by := range []uint64{2*api.S - k, api.R - k, -k, math.MaxUint64 - k} {
			checkTurn(t, k, by, 0, api.ErrArg)
		}
	}
}

// P9.3: points that were worked out beforehand, outside the project.
func TestTurnPointWrittenOut(t *testing.T) {
	five := api.Ed{X: 54216708281467337, Y: 66297777173597027}
	checkTurnPoint(t, five, 0, five)
	checkTurnPoint(t, five, 1, api.Ed{X: 170317750279325719, Y: 34670886643523254})
	checkTurnPoint(t, five, 9, api.Ed{X: 247926893226952788, Y: 168895567628064189})
	checkTurnPoint(t, five, api.S-1, api.Ed{X: 102079033001587460, Y: 266919760672381183})
}

// P9.3: the point may be 0, and so may the turned one.
func TestTurnPoint(t *testing.T) {
	draw := rand.New(rand.NewSource(94))
	checkTurnPoint(t, zero, 0, zero)
	for _, k := range keys(20) {
		p := multiple(k)
		checkTurnPoint(t, zero, k, p)
		checkTurnPoint(t, p, 0, p)
		checkTurnPoint(t, p, api.S-k, zero)
		checkTurnPoint(t, edwards.Neg(p), k, zero)
		for _, by := range []uint64{1, api.S - 1, k, draw.Uint64() % api.S} {
			checkTurnPoint(t, p, by, edwards.Add(p, multiple(by)))
		}
	}
}

// P9.3, R3
func TestTurnPointOfAStrangerOrByTooMuch(t *testing.T) {
	checkArg := func(p api.Ed, by uint64) {
		t.Helper()
		if got, err := schnorr.TurnPoint(p, by); got != (api.Ed{}) || err != api.ErrArg {
			t.Errorf("TurnPoint(%v, %d) = %v, %v, want the zero value, ErrArg", p, by, got, err)
		}
	}
	for _, p := range strangers() {
		for _, by := range []uint64{0, 1, 9, api.S - 1, api.S, math.MaxUint64} {
			checkArg(p, by)
		}
	}
	for _, by := range notBelow() {
		checkArg(zero, by)
		checkArg(edwards.Gen(), by)
		checkArg(multiple(5), by)
	}
}

// P9.5: what the turned key signs holds for the turned point, and for the
// point that it was no more.
func TestTurnedKeysSign(t *testing.T) {
	msg := []byte("message")
	for _, k := range keys(10) {
		p, err := schnorr.Point(k)
		if err != nil {
			t.Fatal(err)
		}
		for _, by := range keys(3) {
			if k+by == api.S {
				continue
			}
			turned, err := schnorr.Turn(k, by)
			q, err2 := schnorr.TurnPoint(p, by)
			s, err3 := schnorr.Sign(turned, 7, msg)
			of, err4 := schnorr.Point(turned)
			if err != nil || err2 != nil || err3 != nil || err4 != nil || q != of {
				t.Errorf("%d turned by %d: %v and %v; %v, %v, %v, %v", k, by, q, of, err, err2, err3, err4)
			}
			checkVerify(t, q, msg, s)
			refuses(t, p, msg, s)
		}
	}
}

// P9.5: where the turned key is 0, the turned point is, and nothing holds for
// it.
func TestTurnedToZeroHoldsNothing(t *testing.T) {
	q, err := schnorr.TurnPoint(multiple(5), api.S-5)
	if q != zero || err != nil {
		t.Fatal(q, err)
	}
	refuses(t, q, nil, api.Sig{A: multiple(7), Z: 7})
	checkTurn(t, 5, api.S-5, 0, api.ErrZero)
}
