package rank_test

import (
	"math"
	"testing"

	"obol/api"
	"obol/rank"
)

func checkSound(t *testing.T, s api.Rank) {
	t.Helper()
	if err := rank.Check(s); err != nil {
		t.Errorf("Check(%d variables, %d public, %d rows) = %v, want nil", s.Vars, s.Publics, len(s.Rows), err)
	}
}

// checkUnsound asks Holds too, with and without values that would do.
func checkUnsound(t *testing.T, s api.Rank) {
	t.Helper()
	if err := rank.Check(s); err != api.ErrForm {
		t.Errorf("Check(%d variables, %d public, %d rows) = %v, want ErrForm", s.Vars, s.Publics, len(s.Rows), err)
	}
	for _, values := range [][]uint64{nil, {1}, {2}, ones(max(0, min(s.Vars, 2*api.MaxVars)))} {
		if err := rank.Holds(s, values); err != api.ErrForm {
			t.Errorf("Holds(%d variables, %d public, %d rows; %d values) = %v, want ErrForm",
				s.Vars, s.Publics, len(s.Rows), len(values), err)
		}
	}
}

func ones(n int) []uint64 {
	l := make([]uint64, n)
	for i := range l {
		l[i] = 1
	}
	return l
}

// inEach are three rows, each with the list in another one of its places.
func inEach(l []api.Term) []api.Row {
	return []api.Row{{A: l}, {B: l}, {C: l}}
}

// rising is a list of as many terms as there are variables.
func rising(vars int) []api.Term {
	l := make([]api.Term, vars)
	for v := range l {
		l[v] = api.Term{V: v, K: api.R - 1 - uint64(v)}
	}
	return l
}

// P11.1: variables, and public ones.
func TestCheckCounts(t *testing.T) {
	for _, vars := range []int{1, 2, 3, 100, api.MaxVars - 1, api.MaxVars} {
		for _, publics := range []int{0, vars / 2, vars - 1} {
			checkSound(t, api.Rank{Vars: vars, Publics: publics})
			checkSound(t, api.Rank{Vars: vars, Publics: publics, Rows: []api.Row{{}}})
		}
		for _, publics := range []int{-1, -2, -vars, vars, vars + 1, api.MaxVars, 1 << 32, math.MinInt, math.MaxInt} {
			checkUnsound(t, api.Rank{Vars: vars, Publics: publics})
		}
	}
	for _, vars := range []int{0, -1, -2, api.MaxVars + 1, 2 * api.MaxVars, 1 << 32, 1<<32 + 1, math.MinInt, math.MinInt + 1, math.MaxInt} {
		for _, publics := range []int{0, 1, -1, -2, vars, vars - 1} {
			checkUnsound(t, api.Rank{Vars: vars, Publics: publics})
		}
	}
	checkUnsound(t, api.Rank{})
}

// P11.1: how many rows there are.
func TestCheckRows(t *testing.T) {
	l := []api.Term{{V: 0, K: 1}}
	for _, rows := range []int{0, 1, 5, api.MaxRows - 1, api.MaxRows} {
		s := api.Rank{Vars: 1, Rows: make([]api.Row, rows)}
		checkSound(t, s)
		for i := range s.Rows {
			s.Rows[i] = api.Row{A: l, B: l, C: l}
		}
		checkSound(t, s)
	}
	for _, rows := range []int{api.MaxRows + 1, 2 * api.MaxRows, 1 << 16} {
		checkUnsound(t, api.Rank{Vars: 1, Rows: make([]api.Row, rows)})
		checkUnsound(t, api.Rank{Vars: api.MaxVars, Rows: make([]api.Row, rows)})
	}
}

// P11.1: lists that a row may have, in each of its places.
func TestCheckLists(t *testing.T) {
	for _, l := range [][]api.Term{
		nil, {},
		{{V: 0, K: 1}},
		{{V: 6, K: api.R - 1}},
		{{V: 0, K: api.R - 1}, {V: 1, K: 1}},
		{{V: 0, K: 5}, {V: 6, K: 5}},
		{{V: 2, K: 9}, {V: 3, K: 2}, {V: 5, K: 1}},
		rising(7),
	} {
		for _, row := range inEach(l) {
			checkSound(t, api.Rank{Vars: 7, Publics: 6, Rows: []api.Row{row}})
		}
		checkSound(t, api.Rank{Vars: 7, Rows: append(inEach(l), api.Row{A: l, B: l, C: l})})
	}
	most := rising(api.MaxVars)
	checkSound(t, api.Rank{Vars: api.MaxVars, Rows: []api.Row{{A: most, B: most, C: most}}})
}

// faulty are lists that no row of a system of 7 variables may have.
func faulty() [][]api.Term {
	l := [][]api.Term{
		{{V: 1, K: 1}, {V: 1, K: 1}},
		{{V: 0, K: 1}, {V: 0, K: 1}},
		{{V: 0, K: 1}, {V: 0, K: api.R - 1}},
		{{V: 6, K: 1}, {V: 6, K: 2}},
		{{V: 2, K: 1}, {V: 1, K: 1}},
		{{V: 1, K: 1}, {V: 0, K: 1}},
		{{V: 6, K: 1}, {V: 0, K: 1}},
		{{V: 1, K: 1}, {V: 3, K: 1}, {V: 2, K: 1}},
		{{V: 1, K: 1}, {V: 3, K: 1}, {V: 3, K: 1}},
		{{V: 1, K: 1}, {V: 3, K: 1}, {V: 1, K: 1}},
		append(rising(7), api.Term{V: 7, K: 1}),
		append(rising(7), api.Term{V: 6, K: 1}),
		append(rising(7), api.Term{V: 0, K: 1}),
	}
	for _, v := range append(otherVariables(7), 8) {
		l = append(l, []api.Term{{V: v, K: 1}}, []api.Term{{V: 6, K: 1}, {V: v, K: 1}}, []api.Term{{V: v, K: 1}, {V: 0, K: 1}})
	}
	for _, k := range []uint64{0, api.R, api.R + 1, api.R + 5, 2*api.R - 1, 2 * api.R, 63 * api.R, api.P, 1 << 59, 1 << 62, 1 << 63, 1<<63 + 1, math.MaxUint64} {
		l = append(l, []api.Term{{V: 0, K: k}}, []api.Term{{V: 6, K: k}}, []api.Term{{V: 0, K: 1}, {V: 3, K: k}}, []api.Term{{V: 0, K: k}, {V: 3, K: 1}})
	}
	return l
}

// P11.1: lists that no row may have, in each of its places, and in any row.
func TestCheckFaultyLists(t *testing.T) {
	good := []api.Term{{V: 0, K: 1}, {V: 6, K: 2}}
	for _, l := range faulty() {
		for _, row := range inEach(l) {
			checkUnsound(t, api.Rank{Vars: 7, Rows: []api.Row{row}})
			checkUnsound(t, api.Rank{Vars: 7, Rows: []api.Row{row, {A: good, B: good, C: good}}})
		}
		for _, row := range []api.Row{{A: l, B: good, C: good}, {A: good, B: l, C: good}, {A: good, B: good, C: l}} {
			checkUnsound(t, api.Rank{Vars: 7, Publics: 3, Rows: []api.Row{{A: good}, {B: good}, row}})
		}
		last := make([]api.Row, api.MaxRows)
		last[api.MaxRows-1].C = l
		checkUnsound(t, api.Rank{Vars: 7, Rows: last})
	}
}

// P11.1: a list may be one of more variables, and none of fewer.
func TestCheckListsHangOnVariables(t *testing.T) {
	for _, vars := range []int{2, 3, 7, 100, api.MaxVars} {
		for _, row := range inEach([]api.Term{{V: vars - 1, K: 1}}) {
			checkSound(t, api.Rank{Vars: vars, Rows: []api.Row{row}})
			checkUnsound(t, api.Rank{Vars: vars - 1, Rows: []api.Row{row}})
		}
		for _, row := range inEach(rising(vars)) {
			checkSound(t, api.Rank{Vars: vars, Rows: []api.Row{row}})
			checkUnsound(t, api.Rank{Vars: vars - 1, Rows: []api.Row{row}})
		}
	}
	for _, row := range inEach([]api.Term{{V: api.MaxVars, K: 1}}) {
		checkUnsound(t, api.Rank{Vars: api.MaxVars, Rows: []api.Row{row}})
		checkUnsound(t, api.Rank{Vars: api.MaxVars + 1, Rows: []api.Row{row}})
	}
}
