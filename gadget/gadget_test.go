package gadget_test

import (
	"math"
	"reflect"
	"slices"
	"testing"

	"obol/api"
	"obol/cube"
	"obol/gadget"
	"obol/rank"
)

// made is a maker that has so many public variables and these values.
func made(t *testing.T, publics int, values ...uint64) *gadget.Maker {
	t.Helper()
	m := gadget.New()
	for i, v := range values {
		it := i + 1
		if i < publics {
			v, err := m.Public(v)
			if err != nil || v != it {
				t.Fatalf("Public = %d, %v, want %d, nil", v, err, it)
			}
		} else if v := m.Private(v); v != it {
			t.Fatalf("Private = %d, want %d", v, it)
		}
	}
	return m
}

// checkMade asks for the system, whose first row that doesn't hold is that one
// (or none, if it is -1), and its values, without variable 0's.
func checkMade(t *testing.T, m *gadget.Maker, publics, wrong int, values []uint64, rows ...string) {
	t.Helper()
	s, all := m.Done()
	if want := append([]uint64{1}, values...); !slices.Equal(all, want) {
		t.Errorf("values %d, want %d", all, want)
	}
	if s.Vars != len(values)+1 || s.Publics != publics {
		t.Errorf("%d variables, %d public ones, want %d and %d", s.Vars, s.Publics, len(values)+1, publics)
	}
	if got := rowTexts(s.Rows); !slices.Equal(got, rows) {
		t.Errorf("rows %q, want %q", got, rows)
	}
	for v, n := range all {
		if m.Value(v) != n {
			t.Errorf("Value(%d) = %d, want %d", v, m.Value(v), n)
		}
	}
	checkHolds(t, s, all, wrong)
}

// checkHolds also asks whether the system is sound.
func checkHolds(t *testing.T, s api.Rank, values []uint64, wrong int) {
	t.Helper()
	if err := rank.Check(s); err != nil {
		t.Errorf("Check(%v) = %v, want nil", s, err)
	}
	err := rank.Holds(s, values)
	if wrong < 0 && err != nil {
		t.Errorf("Holds(%v, %d) = %v, want nil", s, values, err)
	}
	if wrong >= 0 && !reflect.DeepEqual(err, &api.Spot{At: wrong, Err: api.ErrWrong}) {
		t.Errorf("Holds(%v, %d) = %v, want ErrWrong at %d", s, values, err, wrong)
	}
}

func checkVariable(t *testing.T, got, want int) {
	t.Helper()
	if got != want {
		t.Errorf("told variable %d, want %d", got, want)
	}
}

// P12.1, P12.5: variable 0 alone, which is 1, and no row.
func TestNew(t *testing.T) {
	checkMade(t, gadget.New(), 0, -1, nil)
}

// P12.1: a public one gets the next number.
func TestPublic(t *testing.T) {
	m := made(t, 3, 7, 0, 7)
	checkMade(t, m, 3, -1, []uint64{7, 0, 7})
	m.Same(1, 3)
	if v, err := m.Public(9); v != 4 || err != nil {
		t.Errorf("Public = %d, %v, want 4, nil", v, err)
	}
	checkMade(t, m, 4, -1, []uint64{7, 0, 7, 9}, "1:1 3:-1 | 0:1 | ")
}

// P12.1: none behind a private one, whichever call made it, and nothing is made.
func TestPublicBehindPrivate(t *testing.T) {
	for i, private := range []func(m *gadget.Maker){
		func(m *gadget.Maker) { m.Private(5) },
		func(m *gadget.Maker) { m.Linear(nil) },
		func(m *gadget.Maker) { m.Mul(1, 1) },
		func(m *gadget.Maker) { m.Bits(1, 1) },
		func(m *gadget.Maker) { m.Choose(0, 0, 0) },
		func(m *gadget.Maker) { m.Two(1, 1) },
		func(m *gadget.Maker) { m.Many(nil) },
	} {
		for publics := range 3 {
			m := made(t, publics, []uint64{1, 1}[:publics]...)
			private(m)
			before, values := m.Done()
			for range 2 {
				if v, err := m.Public(3); v != -1 || err != api.ErrArg {
					t.Errorf("%d: Public = %d, %v, want -1, ErrArg", i, v, err)
				}
			}
			if s, v := m.Done(); !reflect.DeepEqual(s, before) || !slices.Equal(v, values) {
				t.Errorf("%d: Public made %v, %d of %v, %d", i, s, v, before, values)
			}
			checkVariable(t, m.Private(3), len(values))
		}
	}
}

// P12.1: what makes no variable makes no private one.
func TestPublicBehindRows(t *testing.T) {
	m := gadget.New()
	m.Same(0, 0)
	m.Bits(0, 0)
	m.Value(0)
	m.Done()
	if v, err := m.Public(3); v != 1 || err != nil {
		t.Errorf("Public = %d, %v, want 1, nil", v, err)
	}
}

// P12.1: numbers count as their rests by R.
func TestValue(t *testing.T) {
	for _, n := range edges() {
		m := made(t, 1, n, n)
		checkMade(t, m, 1, -1, []uint64{n % api.R, n % api.R})
	}
}

// P12.1: a variable that there isn't counts as variable 0.
func TestValueOfNoVariable(t *testing.T) {
	for vars := 1; vars < 5; vars++ {
		m := made(t, 1, []uint64{7, 8, 9}[:vars-1]...)
		for _, v := range otherVariables(vars) {
			if n := m.Value(v); n != 1 {
				t.Errorf("Value(%d) of %d variables = %d, want 1", v, vars, n)
			}
		}
	}
}

// P12.2: worked out beforehand, outside the project.
func TestLinear(t *testing.T) {
	m := made(t, 1, 10, 100)
	checkVariable(t, m.Linear([]api.Term{{V: 2, K: 3}, {V: 1, K: api.R - 1}, {K: api.R + 5}, {V: 2, K: 4}, {V: 1, K: 1}}), 3)
	checkVariable(t, m.Linear(nil), 4)
	checkVariable(t, m.Linear([]api.Term{{V: 1, K: 0}, {V: 3, K: api.R}, {V: 4, K: 2}}), 5)
	checkVariable(t, m.Linear([]api.Term{{V: 1, K: 1}, {V: 3, K: api.R - 1}}), 6)
	checkMade(t, m, 1, -1, []uint64{10, 100, 705, 0, 0, api.R - 695},
		"0:5 2:7 | 0:1 | 3:1", " | 0:1 | 4:1", "4:2 | 0:1 | 5:1", "1:1 3:-1 | 0:1 | 6:1")
}

// P12.2: worked out beforehand, outside the project. Numbers that aren't below R.
func TestLinearAndMulOfGreatNumbers(t *testing.T) {
	m := made(t, 0, math.MaxUint64, 1<<63)
	checkVariable(t, m.Mul(1, 2), 3)
	checkVariable(t, m.Linear([]api.Term{{V: 1, K: math.MaxUint64}, {V: 2, K: 1 << 63}}), 4)
	checkMade(t, m, 0, -1, []uint64{288230367580389312, 288230371934076897, 151011868808054685, 233414490406785849},
		"1:1 | 2:1 | 3:1", "1:-8707375169 2:-4353687584 | 0:1 | 4:1")
}

// P12.2: worked out beforehand, outside the project.
func TestMul(t *testing.T) {
	m := made(t, 1, 287654321098765432, 123456789012345678)
	checkVariable(t, m.Mul(1, 2), 3)
	checkVariable(t, m.Mul(2, 1), 4)
	checkVariable(t, m.Mul(0, 2), 5)
	checkVariable(t, m.Mul(5, 5), 6)
	checkMade(t, m, 1, -1, []uint64{287654321098765432, 123456789012345678, 60983464677497856, 60983464677497856, 123456789012345678, 64316392529314832},
		"1:1 | 2:1 | 3:1", "2:1 | 1:1 | 4:1", "0:1 | 2:1 | 5:1", "5:1 | 5:1 | 6:1")
}

// P12.2: it makes no variable, and holds if they have one value.
func TestSame(t *testing.T) {
	m := made(t, 1, 5, 5, api.R+5, 1)
	m.Same(1, 2)
	m.Same(3, 1)
	m.Same(2, 2)
	m.Same(4, 0)
	m.Same(0, 0)
	rows := []string{"1:1 2:-1 | 0:1 | ", "1:-1 3:1 | 0:1 | ", " | 0:1 | ", "0:-1 4:1 | 0:1 | ", " | 0:1 | "}
	checkMade(t, m, 1, -1, []uint64{5, 5, 5, 1}, rows...)
	m.Same(4, 1)
	m.Same(1, 4)
	checkMade(t, m, 1, 5, []uint64{5, 5, 5, 1}, append(rows, "1:-1 4:1 | 0:1 | ", "1:1 4:-1 | 0:1 | ")...)
}

// P12.3: worked out beforehand, outside the project.
func TestBits(t *testing.T) {
	m := made(t, 1, 13)
	if bits := m.Bits(1, 5); !slices.Equal(bits, []int{2, 3, 4, 5, 6}) {
		t.Errorf("Bits = %d", bits)
	}
	checkMade(t, m, 1, -1, []uint64{13, 1, 0, 1, 1, 0},
		"2:1 | 0:-1 2:1 | ", "3:1 | 0:-1 3:1 | ", "4:1 | 0:-1 4:1 | ", "5:1 | 0:-1 5:1 | ", "6:1 | 0:-1 6:1 | ",
		"2:1 3:2 4:4 5:8 6:16 | 0:1 | 1:1")
}

// P12.3: bits of bits, and of variable 0.
func TestBitsAgain(t *testing.T) {
	m := gadget.New()
	if bits := m.Bits(0, 1); !slices.Equal(bits, []int{1}) {
		t.Errorf("Bits = %d", bits)
	}
	if bits := m.Bits(1, 2); !slices.Equal(bits, []int{2, 3}) {
		t.Errorf("Bits = %d", bits)
	}
	checkMade(t, m, 0, -1, []uint64{1, 1, 0},
		"1:1 | 0:-1 1:1 | ", "1:1 | 0:1 | 0:1", "2:1 | 0:-1 2:1 | ", "3:1 | 0:-1 3:1 | ", "2:1 3:2 | 0:1 | 1:1")
}

// P12.3: of a value with more bits the lowest ones are told, and the last row
// doesn't hold.
func TestBitsOfTooMuch(t *testing.T) {
	m := made(t, 0, 13)
	m.Bits(1, 3)
	checkMade(t, m, 0, 3, []uint64{13, 1, 0, 1},
		"2:1 | 0:-1 2:1 | ", "3:1 | 0:-1 3:1 | ", "4:1 | 0:-1 4:1 | ", "2:1 3:2 4:4 | 0:1 | 1:1")
}

// P12.3: all counts, at the values around 2 to the count, up to those below R
// that have 59 bits.
func TestBitsOfAllCounts(t *testing.T) {
	for n := range 59 {
		for _, value := range []uint64{0, 1, 1<<n - 1, 1 << n, 1<<n + 1, 2<<n - 1, 1 << 58, api.R - 1, api.R, api.R + 1<<n} {
			m := made(t, 0, value)
			bits := m.Bits(1, n)
			if len(bits) != n {
				t.Fatalf("Bits(.., %d) = %d", n, bits)
			}
			value %= api.R
			for i, v := range bits {
				checkVariable(t, v, i+2)
				if m.Value(v) != value>>i&1 {
					t.Errorf("bit %d of %d is %d", i, value, m.Value(v))
				}
			}
			wrong := -1
			if value >= 1<<n {
				wrong = n
			}
			s, values := m.Done()
			checkHolds(t, s, values, wrong)
		}
	}
}

// P12.3: other counts count as 0, which says that the value is 0.
func TestBitsOfNoCount(t *testing.T) {
	for _, n := range append(otherCounts(), 0) {
		m := made(t, 1, 0, 3)
		for a := range 3 {
			if bits := m.Bits(a, n); len(bits) != 0 {
				t.Errorf("Bits(%d, %d) = %d, want none", a, n, bits)
			}
		}
		checkMade(t, m, 1, 0, []uint64{0, 3}, " | 0:1 | 0:1", " | 0:1 | 1:1", " | 0:1 | 2:1")
		m = made(t, 0, 0)
		m.Bits(1, n)
		checkMade(t, m, 0, -1, []uint64{0}, " | 0:1 | 1:1")
	}
}

// P12.3: worked out beforehand, outside the project; also by what is no bit.
func TestChoose(t *testing.T) {
	m := made(t, 2, 123456789012345678, 287654321098765432, 1, 0, 5)
	checkVariable(t, m.Choose(3, 1, 2), 6)
	checkVariable(t, m.Choose(4, 1, 2), 7)
	checkVariable(t, m.Choose(0, 2, 1), 8)
	checkVariable(t, m.Choose(5, 1, 2), 9)
	checkVariable(t, m.Choose(5, 2, 2), 10)
	checkVariable(t, m.Choose(5, 5, 0), 11)
	checkVariable(t, m.Choose(4, 2, 4), 12)
	checkMade(t, m, 2, -1, []uint64{123456789012345678, 287654321098765432, 1, 0, 5,
		123456789012345678, 287654321098765432, 287654321098765432, 43127413242195624, 287654321098765432, 21, 0},
		"3:1 | 1:1 2:-1 | 2:-1 6:1", "4:1 | 1:1 2:-1 | 2:-1 7:1", "0:1 | 1:-1 2:1 | 1:-1 8:1", "5:1 | 1:1 2:-1 | 2:-1 9:1",
		"5:1 |  | 2:-1 10:1", "5:1 | 0:-1 5:1 | 0:-1 11:1", "4:1 | 2:1 4:-1 | 4:-1 12:1")
}

// P12.4: worked out beforehand, outside the project.
func TestTwo(t *testing.T) {
	m := made(t, 1, 5, 9)
	checkVariable(t, m.Two(1, 2), 9)
	checkMade(t, m, 1, -1, []uint64{5, 9, 441, 9261, 86769225, 808255330875, 226751172940373381, 13736619041282318, 13736619041282337},
		"0:7 1:1 2:1 | 0:7 1:1 2:1 | 3:1", "3:1 | 0:7 1:1 2:1 | 4:1",
		"0:49 1:1 4:1 | 0:49 1:1 4:1 | 5:1", "5:1 | 0:49 1:1 4:1 | 6:1",
		"0:343 1:1 6:1 | 0:343 1:1 6:1 | 7:1", "7:1 | 0:343 1:1 6:1 | 8:1",
		"1:2 2:1 8:1 | 0:1 | 9:1")
}

// P12.4: worked out beforehand, outside the project. Terms of one variable are
// summed up.
func TestTwoOfOneVariable(t *testing.T) {
	m := made(t, 1, 7)
	checkVariable(t, m.Two(1, 1), 8)
	checkMade(t, m, 1, -1, []uint64{7, 441, 9261, 86806489, 808776058013, 49722449436123939, 53493794936236123, 53493794936236144},
		"0:7 1:2 | 0:7 1:2 | 2:1", "2:1 | 0:7 1:2 | 3:1",
		"0:49 1:1 3:1 | 0:49 1:1 3:1 | 4:1", "4:1 | 0:49 1:1 3:1 | 5:1",
		"0:343 1:1 5:1 | 0:343 1:1 5:1 | 6:1", "6:1 | 0:343 1:1 5:1 | 7:1",
		"1:3 7:1 | 0:1 | 8:1")
}

// P12.4: worked out beforehand, outside the project. Of variable 0, and by it.
func TestTwoOfVariable0(t *testing.T) {
	m := made(t, 1, 7)
	checkVariable(t, m.Two(1, 0), 8)
	checkMade(t, m, 1, -1, []uint64{7, 225, 3375, 11771761, 40388911991, 168540676522902302, 245138814785846592, 245138814785846607},
		"0:8 1:1 | 0:8 1:1 | 2:1", "2:1 | 0:8 1:1 | 3:1",
		"0:49 1:1 3:1 | 0:49 1:1 3:1 | 4:1", "4:1 | 0:49 1:1 3:1 | 5:1",
		"0:343 1:1 5:1 | 0:343 1:1 5:1 | 6:1", "6:1 | 0:343 1:1 5:1 | 7:1",
		"0:1 1:2 7:1 | 0:1 | 8:1")
	m = made(t, 0, 7)
	checkVariable(t, m.Two(0, 1), 8)
	checkMade(t, m, 0, -1, []uint64{7, 225, 3375, 11730625, 40177390625, 132637864401665361, 277413716759473102, 277413716759473111},
		"0:8 1:1 | 0:8 1:1 | 2:1", "2:1 | 0:8 1:1 | 3:1",
		"0:50 3:1 | 0:50 3:1 | 4:1", "4:1 | 0:50 3:1 | 5:1",
		"0:344 5:1 | 0:344 5:1 | 6:1", "6:1 | 0:344 5:1 | 7:1",
		"0:2 1:1 7:1 | 0:1 | 8:1")
}

// P12.4: worked out beforehand, outside the project.
func TestMany(t *testing.T) {
	m := made(t, 1, 2, 3)
	checkVariable(t, m.Many([]int{1, 2}), 17)
	checkMade(t, m, 1, -1, []uint64{2, 3, 2, 121, 1331, 1909924, 2639514968, 49512056655140425, 58268499970218006, 58268499970218012,
		284285903478038520, 261683996949724088, 18035088744657608, 230449023993397259, 74471895902162648, 226185877332801757, 54492500985473303},
		"0:2 | 0:1 | 3:1",
		"0:7 1:1 3:1 | 0:7 1:1 3:1 | 4:1", "4:1 | 0:7 1:1 3:1 | 5:1",
		"0:49 3:1 5:1 | 0:49 3:1 5:1 | 6:1", "6:1 | 0:49 3:1 5:1 | 7:1",
		"0:343 3:1 7:1 | 0:343 3:1 7:1 | 8:1", "8:1 | 0:343 3:1 7:1 | 9:1",
		"1:1 3:2 9:1 | 0:1 | 10:1",
		"0:7 2:1 10:1 | 0:7 2:1 10:1 | 11:1", "11:1 | 0:7 2:1 10:1 | 12:1",
		"0:49 10:1 12:1 | 0:49 10:1 12:1 | 13:1", "13:1 | 0:49 10:1 12:1 | 14:1",
		"0:343 10:1 14:1 | 0:343 10:1 14:1 | 15:1", "15:1 | 0:343 10:1 14:1 | 16:1",
		"2:1 10:2 16:1 | 0:1 | 17:1")
}

// P12.4: worked out beforehand, outside the project. What Linear makes, and what
// a Two ahead makes, is there when the next Two comes; what that makes isn't.
func TestManyOfWhatItMakes(t *testing.T) {
	m := gadget.New()
	checkVariable(t, m.Many([]int{1}), 8)
	checkMade(t, m, 0, -1, []uint64{1, 81, 729, 606841, 472729139, 223473164097447289, 166765785579781847, 166765785579781850},
		"0:1 | 0:1 | 1:1",
		"0:7 1:2 | 0:7 1:2 | 2:1", "2:1 | 0:7 1:2 | 3:1",
		"0:49 1:1 3:1 | 0:49 1:1 3:1 | 4:1", "4:1 | 0:49 1:1 3:1 | 5:1",
		"0:343 1:1 5:1 | 0:343 1:1 5:1 | 6:1", "6:1 | 0:343 1:1 5:1 | 7:1",
		"1:3 7:1 | 0:1 | 8:1")
	m = gadget.New()
	checkVariable(t, m.Many([]int{8, 1, 8}), 22)
	checkMade(t, m, 0, -1, []uint64{3, 121, 1331, 1912689, 2645248887, 79814473780740745, 68440935385753591, 68440935385753598,
		228363269287904445, 237627027452623774, 123799343538245676, 190520857814168438, 263359478391017494, 42349364804119678, 179231235575626877,
		94501946051419946, 9849904112331979, 214354156678258003, 130580029812051183, 93500839458961472, 218350445485625809, 68793099447104199},
		"0:3 | 0:1 | 1:1",
		"0:8 1:1 | 0:8 1:1 | 2:1", "2:1 | 0:8 1:1 | 3:1",
		"0:49 1:1 3:1 | 0:49 1:1 3:1 | 4:1", "4:1 | 0:49 1:1 3:1 | 5:1",
		"0:343 1:1 5:1 | 0:343 1:1 5:1 | 6:1", "6:1 | 0:343 1:1 5:1 | 7:1",
		"0:1 1:2 7:1 | 0:1 | 8:1",
		"0:7 1:1 8:1 | 0:7 1:1 8:1 | 9:1", "9:1 | 0:7 1:1 8:1 | 10:1",
		"0:49 8:1 10:1 | 0:49 8:1 10:1 | 11:1", "11:1 | 0:49 8:1 10:1 | 12:1",
		"0:343 8:1 12:1 | 0:343 8:1 12:1 | 13:1", "13:1 | 0:343 8:1 12:1 | 14:1",
		"1:1 8:2 14:1 | 0:1 | 15:1",
		"0:7 8:1 15:1 | 0:7 8:1 15:1 | 16:1", "16:1 | 0:7 8:1 15:1 | 17:1",
		"0:49 15:1 17:1 | 0:49 15:1 17:1 | 18:1", "18:1 | 0:49 15:1 17:1 | 19:1",
		"0:343 15:1 19:1 | 0:343 15:1 19:1 | 20:1", "20:1 | 0:343 15:1 19:1 | 21:1",
		"8:1 15:2 21:1 | 0:1 | 22:1")
}

// P12.4: what Linear, and then Two for each, make; so a number counts as what it
// is when its Two comes, whatever variables there are.
func TestManyIsLinearAndTwos(t *testing.T) {
	for vars := 1; vars < 5; vars++ {
		for v := -1; v < vars+25; v++ {
			for _, l := range [][]int{{v}, {v, v}, {v, 1}, {1, v}, {v, vars, v}, {1, v, 2, v}, {math.MinInt, v, math.MaxInt}} {
				given := []uint64{7, 8, 9}[:vars-1]
				m, want := made(t, 1, given...), made(t, 1, given...)
				told, h := m.Many(l), want.Linear([]api.Term{{K: uint64(len(l))}})
				for _, v := range l {
					h = want.Two(h, v)
				}
				checkVariable(t, told, h)
				s, values := m.Done()
				wantSystem, wantValues := want.Done()
				if !reflect.DeepEqual(s, wantSystem) || !slices.Equal(values, wantValues) {
					t.Errorf("Many(%d) of %d variables: %v, %d, want %v, %d", l, vars, s, values, wantSystem, wantValues)
				}
				checkHolds(t, s, values, -1)
			}
		}
	}
}

// P12.4: what is no variable even at the end counts as variable 0.
func TestManyOfNoVariables(t *testing.T) {
	for vars := 1; vars < 4; vars++ {
		for _, v := range append(otherVariables(vars), vars+29) {
			if v >= vars && v < vars+29 {
				continue
			}
			given := []uint64{7, 8}[:vars-1]
			m, want := made(t, 0, given...), made(t, 0, given...)
			m.Many([]int{1, v, 2, v})
			want.Many([]int{1, 0, 2, 0})
			s, values := m.Done()
			wantSystem, wantValues := want.Done()
			if !reflect.DeepEqual(s, wantSystem) || !slices.Equal(values, wantValues) {
				t.Errorf("by variable %d of %d: %v, %d, want %v, %d", v, vars, s, values, wantSystem, wantValues)
			}
		}
	}
}

// P12.4: of no variables it is 0.
func TestManyOfNone(t *testing.T) {
	for _, l := range [][]int{nil, {}} {
		m := gadget.New()
		checkVariable(t, m.Many(l), 1)
		checkMade(t, m, 0, -1, []uint64{0}, " | 0:1 | 1:1")
	}
}

// P12.6: what Two and Many tell is the hash; also of numbers that aren't below R.
func TestTwoAndManyTellTheHash(t *testing.T) {
	for _, a := range edges() {
		for _, b := range edges() {
			m := made(t, 1, a, b)
			if n := m.Value(m.Two(1, 2)); n != cube.Two(a, b) {
				t.Errorf("Two of %d and %d is %d, want %d", a, b, n, cube.Two(a, b))
			}
			if n := m.Value(m.Many([]int{2, 1, 2})); n != cube.Many([]uint64{b, a, b}) {
				t.Errorf("Many of %d, %d, %d is %d, want %d", b, a, b, n, cube.Many([]uint64{b, a, b}))
			}
			s, values := m.Done()
			checkHolds(t, s, values, -1)
		}
	}
	d := drawingBy(121)
	for size := range 60 {
		m, l, numbers := gadget.New(), make([]int, size), make([]uint64, size)
		for i := range l {
			numbers[i] = d.word()
			l[i] = m.Private(numbers[i])
		}
		if n := m.Value(m.Many(l)); n != cube.Many(numbers) {
			t.Errorf("Many of %d is %d, want %d", numbers, n, cube.Many(numbers))
		}
	}
}

// A variable that there isn't counts as variable 0, in each argument: what would
// be the next one too, though the call makes it. (Many's own list is asked later.)
func TestNoVariables(t *testing.T) {
	for vars := 1; vars < 4; vars++ {
		others := append(otherVariables(vars), vars+2, vars+5, vars+6, vars+7, vars+8, vars+15)
		for _, v := range others {
			for i, ask := range []func(m *gadget.Maker, v int){
				func(m *gadget.Maker, v int) { m.Linear([]api.Term{{V: v, K: 5}}) },
				func(m *gadget.Maker, v int) {
					m.Linear([]api.Term{{V: v, K: 5}, {V: 1, K: 7}, {V: v, K: 2}, {V: 0, K: 9}})
				},
				func(m *gadget.Maker, v int) { m.Mul(v, 1) },
				func(m *gadget.Maker, v int) { m.Mul(1, v) },
				func(m *gadget.Maker, v int) { m.Mul(v, v) },
				func(m *gadget.Maker, v int) { m.Same(v, 1) },
				func(m *gadget.Maker, v int) { m.Same(1, v) },
				func(m *gadget.Maker, v int) { m.Same(v, v) },
				func(m *gadget.Maker, v int) { m.Bits(v, 9) },
				func(m *gadget.Maker, v int) { m.Bits(v, 0) },
				func(m *gadget.Maker, v int) { m.Choose(v, 1, 2) },
				func(m *gadget.Maker, v int) { m.Choose(1, v, 2) },
				func(m *gadget.Maker, v int) { m.Choose(1, 2, v) },
				func(m *gadget.Maker, v int) { m.Choose(v, v, v) },
				func(m *gadget.Maker, v int) { m.Two(v, 1) },
				func(m *gadget.Maker, v int) { m.Two(1, v) },
				func(m *gadget.Maker, v int) { m.Two(v, v) },
			} {
				m, want := made(t, 0, []uint64{7, 8}[:vars-1]...), made(t, 0, []uint64{7, 8}[:vars-1]...)
				ask(m, v)
				ask(want, 0)
				s, values := m.Done()
				wantSystem, wantValues := want.Done()
				if !reflect.DeepEqual(s, wantSystem) || !slices.Equal(values, wantValues) {
					t.Errorf("%d: by variable %d of %d: %v, %d, want %v, %d", i, v, vars, s, values, wantSystem, wantValues)
				}
			}
		}
	}
}

// P12.1 to P12.6: all calls in any order, of any variables, against the chapter
// to the letter.
func TestAnyCalls(t *testing.T) {
	for seed := range int64(400) {
		steps := int(seed % 40)
		m, plain := gadget.New(), newPlain()
		told := play(drawingBy(seed), drawingBy(seed+1000), m, steps)
		want := play(drawingBy(seed), drawingBy(seed+1000), plain, steps)
		if !slices.Equal(told, want) {
			t.Fatalf("%d: told %d, want %d", seed, told, want)
		}
		values := make([]uint64, 0, len(plain.values))
		for _, n := range plain.values[1:] {
			values = append(values, n.Uint64())
		}
		checkMade(t, m, plain.publics, plain.wrong, values, plain.rows...)
	}
}

// P12.6: whatever the values are, the system is one.
func TestSystemDoesNotHangOnValues(t *testing.T) {
	for seed := range int64(60) {
		first := gadget.New()
		told := play(drawingBy(seed), drawingBy(1), first, 30)
		want, values := first.Done()
		for other := range int64(5) {
			m := gadget.New()
			again := play(drawingBy(seed), drawingBy(other+2), m, 30)
			s, others := m.Done()
			if !slices.Equal(again, told) || !reflect.DeepEqual(s, want) {
				t.Errorf("%d: values %d make %v, and %d make %v", seed, values, want, others, s)
			}
		}
	}
}

// P12.6: no value of what is made can be another one, if the others stay.
func TestValuesAreHeld(t *testing.T) {
	given := []uint64{3, 1, 12345678901234567}
	for i, ask := range []func(m *gadget.Maker){
		func(m *gadget.Maker) { m.Linear([]api.Term{{V: 3, K: 5}, {V: 1, K: 7}}) },
		func(m *gadget.Maker) { m.Mul(1, 3) },
		func(m *gadget.Maker) { m.Bits(3, 58) },
		func(m *gadget.Maker) { m.Bits(1, 2) },
		func(m *gadget.Maker) { m.Choose(2, 1, 3) },
		func(m *gadget.Maker) { m.Two(1, 3) },
		func(m *gadget.Maker) { m.Many([]int{3, 1, 2}) },
	} {
		m := made(t, 2, given...)
		ask(m)
		s, values := m.Done()
		checkHolds(t, s, values, -1)
		for v := 1 + len(given); v < len(values); v++ {
			for _, n := range []uint64{0, 1, 2, values[v] + 1, api.R - 1, api.R - values[v], values[v] ^ 1} {
				other := slices.Clone(values)
				other[v] = n % api.R
				if err := rank.Holds(s, other); other[v] != values[v] && err == nil {
					t.Errorf("%d: variable %d may be %d instead of %d", i, v, other[v], values[v])
				}
			}
		}
	}
}

// P12.6: bits are 0 or 1 alone, and add up.
func TestBitsAreHeld(t *testing.T) {
	m := made(t, 1, 2)
	m.Bits(1, 3)
	s, values := m.Done()
	checkHolds(t, s, values, -1)
	checkHolds(t, s, []uint64{1, 2, 2, 0, 0}, 0)
	checkHolds(t, s, []uint64{1, 2, api.R - 2, 0, 1}, 0)
	checkHolds(t, s, []uint64{1, 2, 0, api.R - 1, 1}, 1)
	checkHolds(t, s, []uint64{1, 2, 0, 0, api.R/2 + 1}, 2)
	checkHolds(t, s, []uint64{1, 2, 0, 0, 1}, 3)
	checkHolds(t, s, []uint64{1, 3, 1, 1, 0}, -1)
	checkHolds(t, s, []uint64{1, 3, 0, 1, 0}, 3)
}

// P12.5: Done may be asked at any time, and the maker goes on behind it.
func TestDoneAndOn(t *testing.T) {
	m := made(t, 1, 3)
	checkMade(t, m, 1, -1, []uint64{3})
	m.Private(4)
	checkMade(t, m, 1, -1, []uint64{3, 4})
	m.Mul(1, 2)
	checkMade(t, m, 1, -1, []uint64{3, 4, 12}, "1:1 | 2:1 | 3:1")
	checkMade(t, m, 1, -1, []uint64{3, 4, 12}, "1:1 | 2:1 | 3:1")
}

// P12.5: what is told stays, whatever the maker makes, and whatever becomes of
// it the maker stays.
func TestDoneTellsNewMemory(t *testing.T) {
	m := made(t, 1, 3, 4)
	play := func() {
		m.Two(1, 2)
		m.Bits(2, 5)
		m.Choose(1, 2, 0)
		m.Same(1, 1)
	}
	play()
	first, firstValues := m.Done()
	second, secondValues := m.Done()
	rows, values := rowTexts(first.Rows), slices.Clone(firstValues)
	spoil(first)
	spoilNumbers(firstValues)
	checkMade(t, m, 1, -1, values[1:], rows...)
	play()
	if got := rowTexts(second.Rows); !slices.Equal(got, rows) || !slices.Equal(secondValues, values) {
		t.Errorf("what was told has become %q, %d, want %q, %d", got, secondValues, rows, values)
	}
}

// spoil goes over all of the memory of a system.
func spoil(s api.Rank) {
	for i, row := range s.Rows {
		for _, l := range [][]api.Term{row.A, row.B, row.C} {
			spoilList(l)
		}
		s.Rows[i] = api.Row{}
	}
}

func spoilList(l []api.Term) {
	l = l[:cap(l)]
	for i := range l {
		l[i] = api.Term{V: 77, K: 77}
	}
}

func spoilNumbers(l []uint64) {
	l = l[:cap(l)]
	for i := range l {
		l[i] = 77
	}
}

// P12.5: no two lists of one system share memory.
func TestListsShareNothing(t *testing.T) {
	m := made(t, 1, 3, 4)
	m.Two(1, 2)
	m.Two(1, 1)
	m.Bits(2, 5)
	m.Choose(1, 2, 0)
	m.Mul(1, 1)
	m.Linear([]api.Term{{V: 1, K: 2}, {V: 2, K: 3}})
	s, _ := m.Done()
	want := rowTexts(s.Rows)
	for i := range s.Rows {
		for list := range 3 {
			other, _ := m.Done()
			row := &other.Rows[i]
			l := []*[]api.Term{&row.A, &row.B, &row.C}[list]
			before := slices.Clone(*l)
			spoilList(*l)
			*l = before
			if got := rowTexts(other.Rows); !slices.Equal(got, want) {
				t.Errorf("list %d of row %d shares memory: %q became %q", list, i, want, got)
			}
		}
	}
}

// R2: what is handed in is neither changed nor kept, and the bits told are new
// memory.
func TestArgumentsStay(t *testing.T) {
	m := made(t, 1, 3, 4)
	terms := []api.Term{{V: 2, K: api.R + 1}, {V: -1, K: 2}, {V: 1, K: 0}, {V: 2, K: 5}, {V: 99, K: 1}}
	variables := []int{2, 1, 99, -1, 2}
	termsBefore, variablesBefore := slices.Clone(terms), slices.Clone(variables)
	m.Linear(terms)
	m.Many(variables)
	bits := m.Bits(1, 4)
	if !slices.Equal(terms, termsBefore) || !slices.Equal(variables, variablesBefore) {
		t.Errorf("%v and %d became %v and %d", termsBefore, variablesBefore, terms, variables)
	}
	s, values := m.Done()
	spoilList(terms)
	clear(variables)
	clear(bits[:cap(bits)])
	if again, others := m.Done(); !reflect.DeepEqual(again, s) || !slices.Equal(others, values) {
		t.Errorf("%v, %d became %v, %d", s, values, again, others)
	}
	if bits := m.Bits(1, 4); len(bits) != 4 || bits[0] != len(values) {
		t.Errorf("Bits = %d, want %d first", bits, len(values))
	}
}

// R2: makers know nothing of each other.
func TestMakersAreAlone(t *testing.T) {
	a, b := gadget.New(), gadget.New()
	a.Public(3)
	b.Private(7)
	b.Mul(1, 1)
	a.Public(4)
	a.Same(1, 2)
	checkMade(t, a, 2, 0, []uint64{3, 4}, "1:1 2:-1 | 0:1 | ")
	checkMade(t, b, 0, -1, []uint64{7, 49}, "1:1 | 1:1 | 2:1")
	checkMade(t, gadget.New(), 0, -1, nil)
}

// A maker has no bound of its own: what is above a system's bounds is told as it
// is, and isn't sound.
func TestAboveTheLimits(t *testing.T) {
	m := gadget.New()
	for range api.MaxVars - 1 {
		m.Private(5)
	}
	for range api.MaxRows {
		m.Same(1, 2)
	}
	s, values := m.Done()
	checkHolds(t, s, values, -1)
	m.Same(0, 0)
	if s, _ = m.Done(); len(s.Rows) != api.MaxRows+1 || rank.Check(s) != api.ErrForm {
		t.Errorf("%d rows, Check = %v", len(s.Rows), rank.Check(s))
	}
	checkVariable(t, m.Mul(api.MaxVars-1, 1), api.MaxVars)
	if m.Value(api.MaxVars) != 25 {
		t.Errorf("Value = %d, want 25", m.Value(api.MaxVars))
	}
}

// The chapter's examples.
func TestExamples(t *testing.T) {
	m := gadget.New()
	m.Public(3)
	m.Private(4)
	m.Mul(1, 2)
	checkMade(t, m, 1, -1, []uint64{3, 4, 12}, "1:1 | 2:1 | 3:1")
	m.Same(1, 2)
	checkMade(t, m, 1, 1, []uint64{3, 4, 12}, "1:1 | 2:1 | 3:1", "1:1 2:-1 | 0:1 | ")
}
