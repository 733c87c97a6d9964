package schnorr_test

import (
	"bytes"
	"errors"
	"math"
	"math/rand"
	"slices"
	"strings"
	"testing"

	"obol/api"
	"obol/edwards"
	"obol/modular"
	"obol/schnorr"
)

// signed are signatures that were worked out beforehand, outside the project.
// The messages end ahead of the end of a hash's block, at it, and behind it.
func signed() []struct {
	k, n uint64
	msg  []byte
	s    api.Sig
} {
	type row = struct {
		k, n uint64
		msg  []byte
		s    api.Sig
	}
	first := api.Ed{X: api.EdX, Y: api.EdY}
	last := api.Ed{X: 64641705600650946, Y: 82055451961885530}
	five := api.Ed{X: 54216708281467337, Y: 66297777173597027}
	seven := api.Ed{X: 252582691122900600, Y: 251385050685503184}
	long := api.Ed{X: 22192269972709132, Y: 108895186710911984}
	other := api.Ed{X: 148408501332498949, Y: 41445866633156078}
	const k, n = 123456789012345, 98765432109876
	return []row{
		{5, 7, []byte("m"), api.Sig{A: seven, Z: 46973421961572058}},
		{5, 7, []byte("n"), api.Sig{A: seven, Z: 17666855411361838}},
		{5, 7, nil, api.Sig{A: seven, Z: 47909760638308036}},
		{5, 7, []byte{0}, api.Sig{A: seven, Z: 57298533235004604}},
		{5, 7, []byte("\u00e9"), api.Sig{A: seven, Z: 11691509667274956}},
		{7, 5, []byte("m"), api.Sig{A: five, Z: 19094259849820357}},
		{5, 5, []byte("m"), api.Sig{A: five, Z: 9934479820109060}},
		{14, 7, []byte("m"), api.Sig{A: seven, Z: 9378110731292707}},
		{1, 1, nil, api.Sig{A: first, Z: 12551987590185454}},
		{api.S - 1, api.S - 1, nil, api.Sig{A: last, Z: 36171935487693648}},
		{1, api.S - 1, []byte("a message"), api.Sig{A: last, Z: 21012404674360335}},
		{api.S - 1, 1, []byte("a message"), api.Sig{A: first, Z: 20419826693727900}},
		{k, n, rising(47), api.Sig{A: long, Z: 56141718327905783}},
		{k, n, rising(48), api.Sig{A: long, Z: 46610016256089276}},
		{k, n, rising(49), api.Sig{A: long, Z: 4649195066361559}},
		{api.S / 2, 1 << 55, rising(300), api.Sig{A: other, Z: 3376139187238591}},
	}
}

func checkSign(t *testing.T, k, n uint64, msg []byte, want api.Sig) {
	t.Helper()
	if got, err := schnorr.Sign(k, n, msg); got != want || err != nil {
		t.Errorf("Sign(%d, %d, %x) = %v, %v, want %v", k, n, msg, got, err, want)
	}
	checkVerify(t, multiple(k), msg, want)
}

func checkVerify(t *testing.T, p api.Ed, msg []byte, s api.Sig) {
	t.Helper()
	if err := schnorr.Verify(p, msg, s); err != nil {
		t.Errorf("Verify(%v, %x, %v) = %v, want nil", p, msg, s, err)
	}
}

func refuses(t *testing.T, p api.Ed, msg []byte, s api.Sig) {
	t.Helper()
	if err := schnorr.Verify(p, msg, s); err != api.ErrSign {
		t.Errorf("Verify(%v, %x, %v) = %v, want ErrSign", p, msg, s, err)
	}
}

// P9.1: points that were worked out beforehand, outside the project.
func TestPointWrittenOut(t *testing.T) {
	for k, want := range map[uint64]api.Ed{
		1:         {X: 223588670687113535, Y: 82055451961885530},
		2:         {X: 215313104986860010, Y: 182547805408397888},
		5:         {X: 54216708281467337, Y: 66297777173597027},
		14:        {X: 247926893226952788, Y: 168895567628064189},
		1 << 32:   {X: 204536615945234725, Y: 241098025149868600},
		api.S / 2: {X: 88234739724193906, Y: 47203778514800504},
		api.S - 2: {X: 72917271300904471, Y: 182547805408397888},
		api.S - 1: {X: 64641705600650946, Y: 82055451961885530},
	} {
		if got, err := schnorr.Point(k); got != want || err != nil {
			t.Errorf("Point(%d) = %v, %v, want %v", k, got, err, want)
		}
	}
}

// P9.1
func TestPoint(t *testing.T) {
	for _, k := range keys(50) {
		got, err := schnorr.Point(k)
		if want := multiple(k); got != want || err != nil || got == zero || !edwards.In(got) {
			t.Errorf("Point(%d) = %v, %v, want %v", k, got, err, want)
		}
	}
}

// P9.1, R3
func TestPointOfNoKey(t *testing.T) {
	for _, k := range noKeys() {
		if got, err := schnorr.Point(k); got != (api.Ed{}) || err != api.ErrArg {
			t.Errorf("Point(%d) = %v, %v, want the zero value, ErrArg", k, got, err)
		}
	}
}

// P9.1, P9.2
func TestSignWrittenOut(t *testing.T) {
	for _, row := range signed() {
		checkSign(t, row.k, row.n, row.msg, row.s)
	}
}

// P9.1, P9.2, P9.5: with messages of many lengths, by each key.
func TestSign(t *testing.T) {
	draw := rand.New(rand.NewSource(91))
	for _, k := range keys(10) {
		for _, n := range keys(3) {
			msg := make([]byte, draw.Intn(200))
			draw.Read(msg)
			checkSign(t, k, n, msg, signature(k, n, msg))
		}
	}
	for size := range 130 {
		checkSign(t, 5, 7, rising(size), signature(5, 7, rising(size)))
	}
	whole := rising(1 << 16)
	checkSign(t, 5, 7, whole, signature(5, 7, whole))
}

// P9.1, R3: what is no key is no nonce either.
func TestSignByNoKeyOrNonce(t *testing.T) {
	checkArg := func(k, n uint64, msg []byte) {
		t.Helper()
		if got, err := schnorr.Sign(k, n, msg); got != (api.Sig{}) || err != api.ErrArg {
			t.Errorf("Sign(%d, %d, %x) = %v, %v, want the zero value, ErrArg", k, n, msg, got, err)
		}
	}
	for _, msg := range [][]byte{nil, []byte("m")} {
		for _, k := range noKeys() {
			for _, n := range keys(0) {
				checkArg(k, n, msg)
				checkArg(n, k, msg)
			}
			for _, n := range noKeys() {
				checkArg(k, n, msg)
			}
		}
	}
}

// P9.2: each bit of what is told apart makes another one, which doesn't hold.
func TestVerifyWithABitTurned(t *testing.T) {
	for _, row := range signed()[:8] {
		p := multiple(row.k)
		for bit := range 64 {
			turn := uint64(1) << bit
			refuses(t, api.Ed{X: p.X ^ turn, Y: p.Y}, row.msg, row.s)
			refuses(t, api.Ed{X: p.X, Y: p.Y ^ turn}, row.msg, row.s)
			s := row.s
			s.A.X ^= turn
			refuses(t, p, row.msg, s)
			s = row.s
			s.A.Y ^= turn
			refuses(t, p, row.msg, s)
			s = row.s
			s.Z ^= turn
			refuses(t, p, row.msg, s)
		}
		for bit := range 8 * len(row.msg) {
			msg := slices.Clone(row.msg)
			msg[bit/8] ^= 1 << (bit % 8)
			refuses(t, p, msg, row.s)
		}
	}
}

// P9.2: other keys, other points, other messages, and what of two signatures
// is laid together.
func TestVerifyOfOthers(t *testing.T) {
	p, msg := multiple(5), []byte("message")
	s := signature(5, 7, msg)
	checkVerify(t, p, msg, s)
	for _, other := range []api.Ed{
		zero, edwards.Gen(), edwards.Neg(p), multiple(4), multiple(6), edwards.Neg(s.A), {X: p.Y, Y: p.X},
	} {
		refuses(t, other, msg, s)
		refuses(t, p, msg, api.Sig{A: other, Z: s.Z})
	}
	refuses(t, s.A, msg, s)
	refuses(t, s.A, msg, api.Sig{A: p, Z: s.Z})
	refuses(t, p, msg, api.Sig{A: p, Z: s.Z})
	for _, other := range []string{"", "m", "messag", "essage", "Message", "message\x00", "\x00message", " message", "messagemessage"} {
		refuses(t, p, []byte(other), s)
	}
	for _, n := range []uint64{1, 6, 8, api.S - 7} {
		other := signature(5, n, msg)
		refuses(t, p, msg, api.Sig{A: other.A, Z: s.Z})
		refuses(t, p, msg, api.Sig{A: s.A, Z: other.Z})
	}
	refuses(t, p, msg, api.Sig{})
	refuses(t, p, msg, api.Sig{A: zero})
	refuses(t, p, msg, api.Sig{A: edwards.Neg(s.A), Z: api.S - s.Z})
	refuses(t, edwards.Neg(p), msg, api.Sig{A: edwards.Neg(s.A), Z: api.S - s.Z})
}

// P9.2: what is asked hangs on A, on K and on the message, in that order, for
// the person schnorr alone: by other questions it doesn't hold.
func TestVerifyByOtherQuestions(t *testing.T) {
	const k, n = 5, 7
	p, a, msg := multiple(k), multiple(n), []byte("m")
	ap, pa := append(plainBytes(a), plainBytes(p)...), append(plainBytes(p), plainBytes(a)...)
	checkVerify(t, p, msg, api.Sig{A: a, Z: answered(n, hashed(ap, msg), k)})
	for _, q := range []uint64{
		hashed(pa, msg), hashed(plainBytes(a), msg), hashed(plainBytes(p), msg), hashed(nil, msg), hashed(ap, nil),
		hashed(msg, ap), hashed(append(plainBytes(a), msg...), plainBytes(p)), 0, 1, api.S - 1,
	} {
		refuses(t, p, msg, api.Sig{A: a, Z: answered(n, q, k)})
	}
}

// P9.2: Z is below S, though the first point is as often the same.
func TestVerifyOfAGreatZ(t *testing.T) {
	const times = math.MaxUint64 / api.S
	for _, row := range signed()[:4] {
		p := multiple(row.k)
		for k := uint64(1); k < times; k++ {
			s := api.Sig{A: row.s.A, Z: row.s.Z + k*api.S}
			if multiple(s.Z) != multiple(row.s.Z) {
				t.Fatalf("%d times isn't as often as %d times", s.Z, row.s.Z)
			}
			refuses(t, p, row.msg, s)
		}
		for _, z := range noKeys()[1:] {
			refuses(t, p, row.msg, api.Sig{A: row.s.A, Z: z})
		}
	}
}

// P9.2: K isn't 0, though of 0 all adds up, and so it does of what counts as 0.
func TestVerifyForZero(t *testing.T) {
	for _, p := range append(noPoints(), zero) {
		for _, n := range []uint64{0, 1, 7, api.S - 1} {
			s := api.Sig{A: multiple(n), Z: n}
			for _, msg := range [][]byte{nil, []byte("m"), rising(100)} {
				if !balances(p, question(s.A, p, msg), s) {
					t.Fatalf("%v doesn't add up for %v", s, p)
				}
				refuses(t, p, msg, s)
			}
		}
	}
}

// P9.2: K is of order S, though with others it adds up by one question of two,
// or of four.
func TestVerifyForOtherOrders(t *testing.T) {
	const k, n = 5, 7
	for _, off := range []api.Ed{half, quarter, edwards.Neg(quarter)} {
		p := edwards.Add(multiple(k), off)
		found := 0
		for msg := []byte{0}; msg[0] < 100; msg[0]++ {
			q := question(multiple(n), p, msg)
			s := api.Sig{A: multiple(n), Z: answered(n, q, k)}
			if balances(p, q, s) {
				found++
			}
			refuses(t, p, msg, s)
			s.A = edwards.Add(s.A, off)
			q = question(s.A, p, msg)
			s.Z = answered(n, q, k)
			if balances(p, q, s) {
				found++
			}
			refuses(t, p, msg, s)
		}
		if found < 10 {
			t.Errorf("with %v it adds up only %d times of 200", off, found)
		}
	}
}

// P9.2: A is of order S. What is no point counts as 0, and would add up.
func TestVerifyWithAStranger(t *testing.T) {
	const k = 5
	p, msg := multiple(k), []byte("m")
	for _, a := range strangers() {
		for _, q := range []uint64{
			question(a, p, msg), question(zero, p, msg), hashed(plainBytes(p), msg),
			hashed(append(make([]byte, 8), plainBytes(p)...), msg),
		} {
			for _, n := range []uint64{0, 1, 7} {
				refuses(t, p, msg, api.Sig{A: a, Z: answered(n, q, k)})
			}
		}
	}
}

// P9.2: A may be 0, which is of order S, as no nonce makes it, but a Z that is
// the question times the key does.
func TestVerifyWithAZero(t *testing.T) {
	checkVerify(t, multiple(5), []byte("m"), api.Sig{A: zero, Z: 33435238949056906})
	checkVerify(t, multiple(api.S-1), []byte("m"), api.Sig{A: zero, Z: 36870068134338453})
	for _, k := range keys(10) {
		p := multiple(k)
		s := api.Sig{A: zero, Z: modular.Mul(api.S, k, question(zero, p, nil))}
		checkVerify(t, p, nil, s)
		refuses(t, p, []byte{0}, s)
		s.Z = modular.Add(api.S, s.Z, 1)
		refuses(t, p, nil, s)
	}
}

// P9.4: also what stands behind a message's end stays, and a call tells the
// same again, whatever was done in between.
func TestNothingIsChangedOrKept(t *testing.T) {
	all := rising(100)
	before := slices.Clone(all)
	p := multiple(5)
	for size := range 60 {
		s, err := schnorr.Sign(5, 7, all[:size])
		held := schnorr.Verify(p, all[:size], s)
		if err != nil || held != nil || !bytes.Equal(all, before) {
			t.Errorf("Sign: %v; Verify: %v; the bytes are %x, want %x", err, held, all, before)
		}
		for k := range size {
			all[k]++
		}
		if size > 0 {
			refuses(t, p, all[:size], s)
		}
		copy(all, before)
		checkSign(t, 5, 7, all[:size], s)
	}
}

// P9.5: two signatures of one A and of two questions tell the key.
func TestTwoSignaturesTellTheKey(t *testing.T) {
	for _, k := range keys(10) {
		for _, n := range keys(2) {
			first, err := schnorr.Sign(k, n, []byte("first"))
			second, err2 := schnorr.Sign(k, n, []byte("second"))
			if err != nil || err2 != nil || first.A != second.A {
				t.Fatal(first, second, err, err2)
			}
			p := multiple(k)
			apart := modular.Sub(api.S, question(first.A, p, []byte("first")), question(second.A, p, []byte("second")))
			inverse, err := modular.Inv(api.S, apart)
			if err != nil {
				t.Fatal(err)
			}
			if got := modular.Mul(api.S, modular.Sub(api.S, first.Z, second.Z), inverse); got != k {
				t.Errorf("two signatures by %d and %d tell the key %d", k, n, got)
			}
		}
	}
}

// The chapter's examples.
func TestExamples(t *testing.T) {
	m := []byte(strings.Repeat("m", 20))
	p, err := schnorr.Point(5)
	s, err2 := schnorr.Sign(5, 7, m)
	if err := errors.Join(err, err2, schnorr.Verify(p, m, s)); err != nil {
		t.Errorf("Verify(Point(5), m, Sign(5, 7, m)): %v", err)
	}
	if got, err := schnorr.Point(0); got != (api.Ed{}) || err != api.ErrArg {
		t.Errorf("Point(0) = %v, %v, want ErrArg", got, err)
	}
}

// P1: whatever comes, all calls end, and none panics; what they refuse is told
// by one of two errors.
func TestAnyArguments(t *testing.T) {
	draw := rand.New(rand.NewSource(1))
	word := func() uint64 { return draw.Uint64() >> draw.Intn(64) }
	points := append(strangers(), zero, edwards.Gen(), multiple(5))
	point := func() api.Ed {
		if draw.Intn(2) == 0 {
			return api.Ed{X: word(), Y: word()}
		}
		return points[draw.Intn(len(points))]
	}
	for range 1000 {
		msg := make([]byte, draw.Intn(100))
		draw.Read(msg)
		_, err := schnorr.Sign(word(), word(), msg)
		_, err2 := schnorr.TurnPoint(point(), word())
		for _, err := range []error{err, err2} {
			if err != nil && err != api.ErrArg {
				t.Errorf("%v is told", err)
			}
		}
		refuses(t, point(), msg, api.Sig{A: point(), Z: word()})
	}
}
