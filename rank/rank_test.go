package rank_test

import (
	"math"
	"reflect"
	"slices"
	"testing"

	"obol/api"
	"obol/rank"
)

func checkValue(t *testing.T, l []api.Term, values []uint64, want uint64) {
	t.Helper()
	if got := rank.Value(l, values); got != want {
		t.Errorf("Value(%v, %d) = %d, want %d", l, values, got, want)
	}
}

func checkHolds(t *testing.T, s api.Rank, values []uint64) {
	t.Helper()
	if err := rank.Holds(s, values); err != nil {
		t.Errorf("Holds(%v, %d) = %v, want nil", s, values, err)
	}
}

func checkNoValues(t *testing.T, s api.Rank, values []uint64) {
	t.Helper()
	if err := rank.Holds(s, values); err != api.ErrArg {
		t.Errorf("Holds(%v, %d) = %v, want ErrArg", s, values, err)
	}
}

func checkWrong(t *testing.T, s api.Rank, values []uint64, at int) {
	t.Helper()
	err := rank.Holds(s, values)
	if spot, ok := err.(*api.Spot); !ok || *spot != (api.Spot{At: at, Err: api.ErrWrong}) {
		t.Errorf("Holds(%v, %d) = %v, want ErrWrong at %d", s, values, err, at)
	}
}

// P11.1: worked out beforehand, outside the project.
func TestValueWrittenOut(t *testing.T) {
	for _, row := range []struct {
		l      []api.Term
		values []uint64
		want   uint64
	}{
		{nil, nil, 0},
		{nil, []uint64{1, 2}, 0},
		{[]api.Term{{V: 0, K: 5}}, nil, 0},
		{[]api.Term{{V: 0, K: 5}}, []uint64{1, 2}, 5},
		{[]api.Term{{V: 1, K: 3}, {V: 0, K: 4}}, []uint64{1, api.R - 1}, 1},
		{[]api.Term{{V: 1, K: api.R - 1}, {V: 2, K: api.R - 1}}, []uint64{1, api.R - 1, api.R - 2}, 3},
		{[]api.Term{{V: 0, K: math.MaxUint64}}, []uint64{math.MaxUint64}, 13793370035720058},
		{[]api.Term{{V: 0, K: math.MaxUint64}, {V: 1, K: math.MaxUint64}, {V: 2, K: math.MaxUint64}},
			[]uint64{math.MaxUint64, math.MaxUint64 - 1, math.MaxUint64 - 2}, 41380136229285681},
		{[]api.Term{{V: 0, K: 123456789012345678}, {V: 1, K: 287654321098765432}, {V: 3, K: 200000000000000003}},
			[]uint64{1, 198765432109876543, 7, 234567890123456789}, 235912708606674360},
		{[]api.Term{{V: 2, K: 5}, {V: 2, K: 6}, {V: 1, K: 7}, {V: 2, K: api.R - 10}}, []uint64{1, 10, 100}, 170},
		{[]api.Term{{V: -1, K: 5}, {V: 3, K: 5}, {V: 1 << 62, K: 5}, {V: math.MinInt, K: 5}, {V: 2, K: 1}}, []uint64{1, 2, 3}, 3},
		{[]api.Term{{V: 0, K: 1 << 63}, {V: 1, K: 1<<63 + 1}}, []uint64{1 << 62, 1 << 63}, 185316488059028862},
		{[]api.Term{{V: 0, K: api.S}, {V: 1, K: api.P}}, []uint64{api.P, api.S}, 144115188499631383},
	} {
		checkValue(t, row.l, row.values, row.want)
	}
}

// P11.1: at all edges, also of Ks and values that aren't below R.
func TestValue(t *testing.T) {
	for _, k := range edges() {
		for _, n := range edges() {
			l, values := []api.Term{{V: 1, K: k}, {V: 0, K: n}, {V: 1, K: n}}, []uint64{k, n}
			checkValue(t, l[:1], values, rest(plainValue(l[:1], values)))
			checkValue(t, l, values, rest(plainValue(l, values)))
		}
	}
	d := drawingBy(111)
	for range 3000 {
		vars := 1 + d.Intn(9)
		l, values := d.terms(d.Intn(20), vars), make([]uint64, vars)
		for i := range values {
			values[i] = d.word()
		}
		checkValue(t, l, values, rest(plainValue(l, values)))
	}
}

// P11.1: a V that is none of values counts as 0.
func TestValueOfNoVariable(t *testing.T) {
	for vars := range 5 {
		values := ones(vars)
		for _, v := range otherVariables(vars) {
			checkValue(t, []api.Term{{V: v, K: 5}}, values, 0)
			checkValue(t, []api.Term{{V: v, K: 5}, {V: vars - 1, K: 7}, {V: v, K: 9}}, values, uint64(7*min(vars, 1)))
		}
	}
	checkValue(t, []api.Term{{V: 0, K: 5}, {V: 1, K: 7}}, []uint64{}, 0)
}

// P11.1: a list as long as there are variables, and longer ones.
func TestValueOfLongLists(t *testing.T) {
	d := drawingBy(112)
	values := d.values(api.MaxVars)
	l := rising(api.MaxVars)
	checkValue(t, l, values, rest(plainValue(l, values)))
	l = append(l, d.terms(3000, 100)...)
	checkValue(t, l, values[:100], rest(plainValue(l, values[:100])))
}

// worked is a system of 5 rows: x x and x x x are made of x, the public number
// is x x x + x + 5, b (b - 1) is 0, and nothing is nothing. Its variables are
// 1, the public number, x, x x, x x x, b.
func worked() api.Rank {
	return api.Rank{Vars: 6, Publics: 1, Rows: []api.Row{
		{A: []api.Term{{V: 2, K: 1}}, B: []api.Term{{V: 2, K: 1}}, C: []api.Term{{V: 3, K: 1}}},
		{A: []api.Term{{V: 3, K: 1}}, B: []api.Term{{V: 2, K: 1}}, C: []api.Term{{V: 4, K: 1}}},
		{A: []api.Term{{V: 0, K: 5}, {V: 2, K: 1}, {V: 4, K: 1}}, B: []api.Term{{V: 0, K: 1}}, C: []api.Term{{V: 1, K: 1}}},
		{A: []api.Term{{V: 5, K: 1}}, B: []api.Term{{V: 0, K: api.R - 1}, {V: 5, K: 1}}},
		{},
	}}
}

// P11.2
func TestHolds(t *testing.T) {
	s := worked()
	checkHolds(t, s, []uint64{1, 35, 3, 9, 27, 0})
	checkHolds(t, s, []uint64{1, 35, 3, 9, 27, 1})
	checkHolds(t, s, []uint64{1, 5, 0, 0, 0, 1})
	checkHolds(t, s, []uint64{1, 3, api.R - 1, 1, api.R - 1, 0})
	checkWrong(t, s, []uint64{1, 35, 3, 10, 27, 0}, 0)
	checkWrong(t, s, []uint64{1, 35, 4, 9, 27, 0}, 0)
	checkWrong(t, s, []uint64{1, 35, 3, 9, 28, 0}, 1)
	checkWrong(t, s, []uint64{1, 35, 3, 9, 28, 2}, 1)
	checkWrong(t, s, []uint64{1, 36, 3, 9, 27, 0}, 2)
	checkWrong(t, s, []uint64{1, 0, 3, 9, 27, 0}, 2)
	checkWrong(t, s, []uint64{1, 35, 3, 9, 27, 2}, 3)
	checkWrong(t, s, []uint64{1, 35, 3, 9, 27, api.R - 1}, 3)
	checkWrong(t, s, []uint64{1, 36, 3, 9, 27, 2}, 2)
}

// P11.2: worked out beforehand, outside the project. Products wrap round at R,
// and at nothing else.
func TestHoldsModuloR(t *testing.T) {
	s := api.Rank{Vars: 4, Rows: []api.Row{
		{A: []api.Term{{V: 1, K: 1}}, B: []api.Term{{V: 2, K: 1}}, C: []api.Term{{V: 3, K: 1}}},
	}}
	for _, row := range [][3]uint64{
		{2, api.R/2 + 1, 1},
		{api.R / 2, api.R / 2, 216172782215823361},
		{api.R - 1, api.R - 1, 1},
		{api.R - 1, 5, api.R - 5},
		{1 << 32, 1 << 32, 288230367580389313},
		{1 << 57, 2, 1 << 58},
		{123456789012345678, 287654321098765432, 60983464677497856},
	} {
		a, b, c := row[0], row[1], row[2]
		checkHolds(t, s, []uint64{1, a, b, c})
		checkHolds(t, s, []uint64{1, b, a, c})
		checkWrong(t, s, []uint64{1, a, b, (c + 1) % api.R}, 0)
		checkWrong(t, s, []uint64{1, a, b, c - 1}, 0)
	}
}

// P11.2: worked out beforehand, outside the project. All terms of all lists
// count.
func TestHoldsByAllTerms(t *testing.T) {
	values := []uint64{1, 198765432109876543, 7, 234567890123456789}
	system := func() api.Rank {
		return api.Rank{Vars: 4, Publics: 3, Rows: []api.Row{{
			A: []api.Term{{V: 0, K: 123456789012345678}, {V: 1, K: 287654321098765432}},
			B: []api.Term{{V: 2, K: 200000000000000003}, {V: 3, K: api.R - 1}},
			C: []api.Term{{V: 0, K: 269727313633513579}, {V: 1, K: 9}, {V: 3, K: 100000000000000001}},
		}}}
	}
	checkHolds(t, system(), values)
	for list := range 3 {
		for i := range 3 {
			s := system()
			l := [][]api.Term{s.Rows[0].A, s.Rows[0].B, s.Rows[0].C}[list]
			if i < len(l) {
				l[i].K = l[i].K%(api.R-1) + 1
				checkWrong(t, s, values, 0)
			}
		}
	}
}

// P11.2: a row without terms in A or in B says that C's value is 0, and one
// without any says nothing.
func TestHoldsWithoutTerms(t *testing.T) {
	one, x := []api.Term{{V: 0, K: 1}}, []api.Term{{V: 1, K: 1}}
	for _, row := range []api.Row{{C: x}, {A: one, C: x}, {B: one, C: x}, {A: []api.Term{}, B: one, C: x}, {A: one, B: x}} {
		s := api.Rank{Vars: 2, Rows: []api.Row{{}, row}}
		checkHolds(t, s, []uint64{1, 0})
		for _, n := range []uint64{1, 2, api.R - 1} {
			checkWrong(t, s, []uint64{1, n}, 1)
		}
	}
	for _, rows := range []int{0, 1, api.MaxRows} {
		checkHolds(t, api.Rank{Vars: 1, Rows: make([]api.Row, rows)}, []uint64{1})
		checkHolds(t, api.Rank{Vars: 2, Publics: 1, Rows: make([]api.Row, rows)}, []uint64{1, api.R - 1})
	}
}

// P11.2: as many as there are variables, all below R, the first one 1. It is
// asked ahead of the rows.
func TestHoldsNoValues(t *testing.T) {
	empty := func(vars int) api.Rank { return api.Rank{Vars: vars} }
	wrong := func(vars int) api.Rank {
		return api.Rank{Vars: vars, Rows: []api.Row{{C: []api.Term{{V: 0, K: 1}}}}}
	}
	for _, system := range []func(int) api.Rank{empty, wrong} {
		for _, vars := range []int{1, 2, 3, 50} {
			for _, size := range []int{0, 1, vars - 1, vars + 1, 2 * vars, api.MaxVars} {
				if size != vars {
					checkNoValues(t, system(vars), ones(size))
				}
			}
			checkNoValues(t, system(vars), nil)
			for _, n := range []uint64{0, 2, api.R - 1, api.R, api.R + 1, 2*api.R + 1, 63*api.R + 1, 1<<63 + 1, math.MaxUint64} {
				values := ones(vars)
				values[0] = n
				checkNoValues(t, system(vars), values)
			}
			for _, n := range []uint64{api.R, api.R + 1, 2 * api.R, 63 * api.R, api.P, 1 << 62, 1 << 63, math.MaxUint64} {
				for i := 1; i < vars; i++ {
					values := ones(vars)
					values[i] = n
					checkNoValues(t, system(vars), values)
				}
			}
		}
	}
	for _, n := range []uint64{0, 1, api.R - 1} {
		checkHolds(t, empty(2), []uint64{1, n})
		checkWrong(t, wrong(2), []uint64{1, n}, 0)
	}
}

// P11.2: at the least and the greatest of all.
func TestHoldsAtTheLimits(t *testing.T) {
	d := drawingBy(113)
	values := d.values(api.MaxVars)
	s := api.Rank{Vars: api.MaxVars, Publics: api.MaxVars - 1, Rows: make([]api.Row, api.MaxRows)}
	most := rising(api.MaxVars)
	s.Rows[0] = api.Row{A: most, B: []api.Term{{V: 0, K: 1}}, C: most}
	s.Rows[api.MaxRows-1] = api.Row{A: []api.Term{{V: 0, K: 1}}, B: most, C: most}
	checkHolds(t, s, values)
	s.Rows[api.MaxRows-1].A = nil
	if err := rank.Holds(s, values); !reflect.DeepEqual(err, &api.Spot{At: api.MaxRows - 1, Err: api.ErrWrong}) {
		t.Errorf("Holds = %v, want ErrWrong at the last row", err)
	}
	checkNoValues(t, api.Rank{Vars: api.MaxVars}, ones(api.MaxVars-1))
	checkNoValues(t, api.Rank{Vars: api.MaxVars}, ones(api.MaxVars+1))
	checkHolds(t, api.Rank{Vars: 1}, []uint64{1})
}

// P11.2: the first row that doesn't hold, of many that hold, and with others
// behind it that don't.
func TestHoldsTellsTheFirstRow(t *testing.T) {
	d := drawingBy(114)
	for range 300 {
		values := d.values(1 + d.Intn(12))
		s := d.system(d.Intn(12), values)
		checkHolds(t, s, values)
		for range min(len(s.Rows), 3) {
			i := d.Intn(len(s.Rows))
			s.Rows[i].C = d.list(len(values))
		}
		checkSound(t, s)
		checkFirst(t, s, values)
		values[d.Intn(len(values))] = 1
		checkFirst(t, s, values)
	}
}

// checkFirst asks the chapter to the letter.
func checkFirst(t *testing.T, s api.Rank, values []uint64) {
	t.Helper()
	if at := plainFirst(s, values); at >= 0 {
		checkWrong(t, s, values, at)
	} else {
		checkHolds(t, s, values)
	}
}

// copied shares nothing with the system.
func copied(s api.Rank) api.Rank {
	s.Rows = slices.Clone(s.Rows)
	for i, row := range s.Rows {
		s.Rows[i] = api.Row{A: slices.Clone(row.A), B: slices.Clone(row.B), C: slices.Clone(row.C)}
	}
	return s
}

// P11.4: also of what doesn't hold, isn't sound, or are no values; and a call
// tells what is there, whatever was there when it was asked before.
func TestHoldsChangesAndKeepsNothing(t *testing.T) {
	good := []uint64{1, 35, 3, 9, 27, 1}
	for _, values := range [][]uint64{good, {1, 36, 3, 9, 27, 2}, {1, 35, 3, 9, 27, api.R}, {0, 1, 2}, good[:5], {}} {
		for _, k := range []uint64{1, 2, api.R, math.MaxUint64} {
			s, l := worked(), slices.Clone(values)
			s.Rows[3].B[1].K = k
			before := copied(s)
			rank.Check(s)
			rank.Holds(s, l)
			rank.Value(s.Rows[3].B, l)
			if !reflect.DeepEqual(s, before) || !slices.Equal(l, values) {
				t.Errorf("%v and %d became %v and %d", before, values, s, l)
			}
		}
	}
	s, values := worked(), slices.Clone(good)
	checkHolds(t, s, values)
	values[1]++
	checkWrong(t, s, values, 2)
	s.Rows[2].C[0].K = 5
	checkWrong(t, s, values, 2)
	values[1], s.Rows[2].C[0].K = 35, 1
	checkHolds(t, s, values)
	s.Rows[1].A[0].V = 5
	checkWrong(t, s, values, 1)
}

// P11.4: two errors are no one and the same.
func TestHoldsTellsNewErrors(t *testing.T) {
	values := []uint64{1, 36, 3, 9, 27, 1}
	first, ok := rank.Holds(worked(), values).(*api.Spot)
	if !ok {
		t.Fatal("Holds told no Spot")
	}
	*first = api.Spot{At: 7, Err: api.ErrNone}
	checkWrong(t, worked(), values, 2)
}

// P11.5: in whatever order the rows stand, they hold or they don't.
func TestHoldsInAnyOrderOfRows(t *testing.T) {
	d := drawingBy(115)
	for n := range 200 {
		values := d.values(1 + d.Intn(8))
		s := d.system(2+d.Intn(6), values)
		wrong := n%2 == 1
		if wrong {
			row := d.right(values)
			row.C = rank.Sum(append(row.C, api.Term{V: 0, K: 1}))
			s.Rows[0] = row
		}
		for range 10 {
			d.Shuffle(len(s.Rows), func(i, j int) { s.Rows[i], s.Rows[j] = s.Rows[j], s.Rows[i] })
			if at := plainFirst(s, values); wrong != (at >= 0) {
				t.Errorf("the first wrong row of %v is %d", s, at)
			}
			checkFirst(t, s, values)
		}
	}
}

// The chapter's examples.
func TestExamples(t *testing.T) {
	l := []api.Term{{V: 1, K: 1}}
	s := api.Rank{Vars: 2, Rows: []api.Row{{A: l, B: l, C: l}}}
	checkHolds(t, s, []uint64{1, 1})
	checkWrong(t, s, []uint64{1, 2}, 0)
}
