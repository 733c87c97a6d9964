package gadget_test

import (
	"fmt"
	"math"
	"math/big"
	"math/rand"
	"slices"
	"strings"

	"obol/api"
)

// This is the chapter to the letter, by math/big, which knows no rests by
// itself and no words that run over.

var modulus = new(big.Int).SetUint64(api.R)

func number(n uint64) *big.Int { return new(big.Int).SetUint64(n) }

func whole(n int64) *big.Int { return big.NewInt(n) }

func rest(n *big.Int) *big.Int { return new(big.Int).Mod(n, modulus) }

func plus(a, b *big.Int) *big.Int { return new(big.Int).Add(a, b) }

func minus(a, b *big.Int) *big.Int { return new(big.Int).Sub(a, b) }

func times(a, b *big.Int) *big.Int { return new(big.Int).Mul(a, b) }

// amount is so much of each variable.
type amount map[int]*big.Int

// of is an amount of pairs of a variable and how much.
func of(pairs ...any) amount {
	all := amount{}
	for i := 0; i < len(pairs); i += 2 {
		all.add(pairs[i].(int), pairs[i+1].(*big.Int))
	}
	return all
}

func (a amount) add(v int, k *big.Int) {
	if a[v] == nil {
		a[v] = new(big.Int)
	}
	a[v] = rest(plus(a[v], k))
}

// text is the terms by rising variables, what is 0 left out.
func (a amount) text() string {
	var l []api.Term
	for v, k := range a {
		if k.Sign() != 0 {
			l = append(l, api.Term{V: v, K: k.Uint64()})
		}
	}
	slices.SortFunc(l, func(a, b api.Term) int { return a.V - b.V })
	return listText(l)
}

// listText writes K as what is nearer to 0: it, or it less R.
func listText(l []api.Term) string {
	var parts []string
	for _, t := range l {
		k := fmt.Sprint(t.K)
		if t.K > api.R/2 && t.K < api.R {
			k = fmt.Sprint("-", api.R-t.K)
		}
		parts = append(parts, fmt.Sprint(t.V, ":", k))
	}
	return strings.Join(parts, " ")
}

func rowTexts(rows []api.Row) []string {
	texts := []string{}
	for _, row := range rows {
		texts = append(texts, listText(row.A)+" | "+listText(row.B)+" | "+listText(row.C))
	}
	return texts
}

// plainMaker is a maker. wrong is the first row that doesn't hold, or -1.
type plainMaker struct {
	publics, privates int
	values            []*big.Int
	rows              []string
	wrong             int
}

func newPlain() *plainMaker { return &plainMaker{values: []*big.Int{whole(1)}, wrong: -1} }

func (m *plainMaker) new(v *big.Int) int {
	m.values = append(m.values, rest(v))
	return len(m.values) - 1
}

func (m *plainMaker) private(v *big.Int) int {
	m.privates++
	return m.new(v)
}

// that is the variable, or variable 0.
func (m *plainMaker) that(v int) int {
	for i := range m.values {
		if i == v {
			return v
		}
	}
	return 0
}

func (m *plainMaker) value(a amount) *big.Int {
	all := new(big.Int)
	for v, k := range a {
		all = plus(all, times(k, m.values[v]))
	}
	return rest(all)
}

func (m *plainMaker) row(a, b, c amount) {
	if m.wrong < 0 && rest(times(m.value(a), m.value(b))).Cmp(m.value(c)) != 0 {
		m.wrong = len(m.rows)
	}
	m.rows = append(m.rows, a.text()+" | "+b.text()+" | "+c.text())
}

func (m *plainMaker) Public(v uint64) (int, error) {
	if m.privates > 0 {
		return -1, api.ErrArg
	}
	m.publics++
	return m.new(number(v)), nil
}

func (m *plainMaker) Private(v uint64) int { return m.private(number(v)) }

func (m *plainMaker) Value(v int) uint64 { return m.values[m.that(v)].Uint64() }

func (m *plainMaker) Linear(l []api.Term) int {
	all := amount{}
	for _, t := range l {
		all.add(m.that(t.V), number(t.K))
	}
	return m.linear(all)
}

func (m *plainMaker) linear(all amount) int {
	it := m.private(m.value(all))
	m.row(all, of(0, whole(1)), of(it, whole(1)))
	return it
}

func (m *plainMaker) Mul(a, b int) int {
	a, b = m.that(a), m.that(b)
	it := m.private(times(m.values[a], m.values[b]))
	m.row(of(a, whole(1)), of(b, whole(1)), of(it, whole(1)))
	return it
}

func (m *plainMaker) Same(a, b int) {
	a, b = m.that(a), m.that(b)
	m.row(of(a, whole(1), b, whole(-1)), of(0, whole(1)), of())
}

func (m *plainMaker) Bits(a, n int) []int {
	a = m.that(a)
	if n < 0 || n > 58 {
		n = 0
	}
	bits, all := []int{}, amount{}
	for i := range n {
		it := m.private(whole(int64(m.values[a].Bit(i))))
		m.row(of(it, whole(1)), of(it, whole(1), 0, whole(-1)), of())
		bits = append(bits, it)
		all.add(it, new(big.Int).Exp(whole(2), whole(int64(i)), nil))
	}
	m.row(all, of(0, whole(1)), of(a, whole(1)))
	return bits
}

func (m *plainMaker) Choose(bit, a, b int) int {
	bit, a, b = m.that(bit), m.that(a), m.that(b)
	part := times(m.values[bit], minus(m.values[a], m.values[b]))
	it := m.private(plus(m.values[b], part))
	m.row(of(bit, whole(1)), of(a, whole(1), b, whole(-1)), of(it, whole(1), b, whole(-1)))
	return it
}

func (m *plainMaker) Two(a, b int) int {
	a, b = m.that(a), m.that(b)
	x := b
	for i := range 3 {
		seven := new(big.Int).Exp(whole(7), whole(int64(i+1)), nil)
		l := of(x, whole(1), a, whole(1), 0, seven)
		value := m.value(l)
		square := m.private(times(value, value))
		m.row(l, l, of(square, whole(1)))
		x = m.private(times(value, times(value, value)))
		m.row(of(square, whole(1)), l, of(x, whole(1)))
	}
	return m.linear(of(x, whole(1), a, whole(2), b, whole(1)))
}

func (m *plainMaker) Many(l []int) int {
	h := m.linear(of(0, whole(int64(len(l)))))
	for _, v := range l {
		h = m.Two(h, v)
	}
	return h
}

// maker is what both makers do.
type maker interface {
	Public(v uint64) (int, error)
	Private(v uint64) int
	Value(v int) uint64
	Linear(l []api.Term) int
	Mul(a, b int) int
	Bits(a, n int) []int
	Choose(bit, a, b int) int
	Same(a, b int)
	Two(a, b int) int
	Many(l []int) int
}

// edges are the numbers around those at which something ends.
func edges() []uint64 {
	l := []uint64{0, 1, 2, 5, 9, math.MaxUint64 - 1, math.MaxUint64, 1<<58 - 1, 1 << 58, 1 << 62, 1 << 63, 1<<63 + 1}
	for _, n := range []uint64{api.R / 2, api.R, 2 * api.R, 3 * api.R, 63 * api.R, api.S, api.P} {
		l = append(l, n-2, n-1, n, n+1, n+5)
	}
	return l
}

// otherVariables are none of so many, and neither are they of a word's half.
func otherVariables(vars int) []int {
	return []int{-1, -2, -vars, vars, vars + 1, 2 * vars, vars + 1<<31, 1 << 32, 1<<32 + 1, 1 << 62,
		math.MaxInt, -1 << 31, -1 << 32, 1 - 1<<32, -1 << 62, math.MinInt, math.MinInt + 1}
}

// otherCounts are none from 0 to 58.
func otherCounts() []int {
	return []int{-1, -2, -58, 59, 60, 64, 65, 100, 1 << 31, 1<<32 + 5, 1<<62 + 5, math.MaxInt, -1 << 31, 5 - 1<<32, math.MinInt, math.MinInt + 5}
}

// drawing is a drawer by a fixed seed.
type drawing struct{ *rand.Rand }

func drawingBy(seed int64) drawing { return drawing{rand.New(rand.NewSource(seed))} }

// word is a number of any length.
func (d drawing) word() uint64 { return d.Uint64() >> d.Intn(64) }

// variable is one of so many, and sometimes none.
func (d drawing) variable(vars int) int {
	if d.Intn(8) > 0 {
		return d.Intn(vars)
	}
	l := otherVariables(vars)
	return l[d.Intn(len(l))]
}

// variables are some of so many, and now and then one of those that come next.
func (d drawing) variables(vars int) []int {
	l := make([]int, d.Intn(4))
	for i := range l {
		l[i] = d.variable(vars)
		if d.Intn(4) == 0 {
			l[i] = vars + d.Intn(30)
		}
	}
	return l
}

func (d drawing) terms(vars int) []api.Term {
	l := make([]api.Term, d.Intn(9))
	for i := range l {
		l[i] = api.Term{V: d.variable(vars), K: d.word()}
	}
	return l
}

// play has a maker make some of each kind, what is asked by d, and the values by
// numbers. It tells what was answered.
func play(d, numbers drawing, m maker, steps int) []int {
	var told []int
	vars := 1
	for range d.Intn(6) {
		v, _ := m.Public(numbers.word())
		told, vars = append(told, v), vars+1
	}
	for range steps {
		v := step(d, numbers, m, vars)
		told = append(told, v...)
		for _, it := range v {
			vars = max(vars, it+1)
		}
	}
	return told
}

// step tells the new variables that a maker tells; of so many that there are.
func step(d, numbers drawing, m maker, vars int) []int {
	a, b, c := d.variable(vars), d.variable(vars), d.variable(vars)
	switch d.Intn(9) {
	case 0:
		v, _ := m.Public(numbers.word())
		return []int{v}
	case 1:
		return []int{m.Private(numbers.word())}
	case 2:
		return []int{m.Linear(d.terms(vars))}
	case 3:
		return []int{m.Mul(a, b)}
	case 4:
		return m.Bits(a, d.Intn(66)-3)
	case 5:
		return []int{m.Choose(a, b, c)}
	case 6:
		m.Same(a, d.variable(vars))
		return nil
	case 7:
		return []int{m.Two(a, b)}
	default:
		return []int{m.Many(d.variables(vars))}
	}
}
