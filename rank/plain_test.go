package rank_test

import (
	"math"
	"math/big"
	"math/rand"
	"slices"

	"obol/api"
)

// This is the chapter to the letter, by math/big, which knows no rests by
// itself and no words that run over.

var modulus = new(big.Int).SetUint64(api.R)

func number(n uint64) *big.Int { return new(big.Int).SetUint64(n) }

func rest(n *big.Int) uint64 { return new(big.Int).Mod(n, modulus).Uint64() }

// valueOf is what a variable has, and 0 if it is none of the values.
func valueOf(v int, values []uint64) *big.Int {
	for i, n := range values {
		if i == v {
			return number(n)
		}
	}
	return new(big.Int)
}

func plainValue(l []api.Term, values []uint64) *big.Int {
	all := new(big.Int)
	for _, t := range l {
		all.Add(all, new(big.Int).Mul(number(t.K), valueOf(t.V, values)))
	}
	return all.Mod(all, modulus)
}

func plainSum(l []api.Term) []api.Term {
	together := map[int]*big.Int{}
	for _, t := range l {
		if together[t.V] == nil {
			together[t.V] = new(big.Int)
		}
		together[t.V].Add(together[t.V], number(t.K))
	}
	sum := []api.Term{}
	for v, k := range together {
		if v >= 0 && rest(k) != 0 {
			sum = append(sum, api.Term{V: v, K: rest(k)})
		}
	}
	slices.SortFunc(sum, func(a, b api.Term) int { return number(uint64(a.V)).Cmp(number(uint64(b.V))) })
	return sum
}

func plainRowHolds(row api.Row, values []uint64) bool {
	product := new(big.Int).Mul(plainValue(row.A, values), plainValue(row.B, values))
	return rest(product) == plainValue(row.C, values).Uint64()
}

// plainFirst is the first row that doesn't hold, or -1.
func plainFirst(s api.Rank, values []uint64) int {
	return slices.IndexFunc(s.Rows, func(row api.Row) bool { return !plainRowHolds(row, values) })
}

// edges are the numbers around those at which something ends.
func edges() []uint64 {
	l := []uint64{0, 1, 2, 5, 9, math.MaxUint64 - 1, math.MaxUint64, 1 << 58, 1 << 62, 1 << 63, 1<<63 + 1}
	for _, n := range []uint64{api.R / 2, api.R, 2 * api.R, 3 * api.R, 63 * api.R, api.S, api.P} {
		l = append(l, n-2, n-1, n, n+1, n+5)
	}
	return l
}

// otherVariables are none of so many, and neither are they of a word's half.
func otherVariables(vars int) []int {
	return []int{-1, -2, -vars, vars, vars + 1, 2 * vars, api.MaxVars, 1 << 31, 1 << 32, 1<<32 + 1, 1 << 62,
		math.MaxInt, -1 << 31, -1 << 32, -1 << 62, math.MinInt, math.MinInt + 1}
}

// drawing is a drawer by a fixed seed.
type drawing struct{ *rand.Rand }

func drawingBy(seed int64) drawing { return drawing{rand.New(rand.NewSource(seed))} }

// word is a number of any length.
func (d drawing) word() uint64 { return d.Uint64() >> d.Intn(64) }

// terms are any terms, of variables from -2 on, to 2 behind the last one.
func (d drawing) terms(size, vars int) []api.Term {
	l := make([]api.Term, size)
	for i := range l {
		l[i] = api.Term{V: d.Intn(vars+4) - 2, K: d.word()}
	}
	return l
}

// list is one that a row may have.
func (d drawing) list(vars int) []api.Term {
	var l []api.Term
	for v := d.Intn(3); v < vars; v += 1 + d.Intn(4) {
		l = append(l, api.Term{V: v, K: 1 + d.word()%(api.R-1)})
	}
	return l
}

// values are some for so many variables.
func (d drawing) values(vars int) []uint64 {
	values := make([]uint64, vars)
	for i := range values {
		values[i] = d.word() % api.R
	}
	values[0] = 1
	return values
}

// right is a row that holds by the values: what C lacks is put to it as so much
// of variable 0.
func (d drawing) right(values []uint64) api.Row {
	row := api.Row{A: d.list(len(values)), B: d.list(len(values)), C: d.list(len(values))}
	if len(row.C) > 0 && row.C[0].V == 0 {
		row.C = row.C[1:]
	}
	lacks := new(big.Int).Mul(plainValue(row.A, values), plainValue(row.B, values))
	if k := rest(lacks.Sub(lacks, plainValue(row.C, values))); k != 0 {
		row.C = append([]api.Term{{K: k}}, row.C...)
	}
	return row
}

// system is a sound one that holds by the values.
func (d drawing) system(rows int, values []uint64) api.Rank {
	s := api.Rank{Vars: len(values), Publics: d.Intn(len(values))}
	for range rows {
		s.Rows = append(s.Rows, d.right(values))
	}
	return s
}
