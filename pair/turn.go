package pair

import (
	"math/bits"

	"obol/api"
	"obol/curve"
	"obol/ext"
)

// turn takes points of order R. It is the chapter's turn times some number
// without an i, which the reduction makes 1 (P4.5): so no wall is divided by,
// and of Inf, where there is no turn, it is 1.
func turn(a, q api.Pt) api.E {
	f := plain(1)
	if a.Inf || q.Inf {
		return f
	}
	t := a
	for bit := bits.Len64(api.R) - 2; bit >= 0; bit-- {
		f = ext.Mul(ext.Mul(f, f), line(t, t, q))
		t = curve.Add(t, t)
		if api.R>>bit&1 == 1 {
			f = ext.Mul(f, line(t, a, q))
			t = curve.Add(t, a)
		}
	}
	return f
}

// line is run times the line's value i Y - YA + l (X + XA), l being rise by
// run: as run has no i, that spares an inverse. Where a and b are together Inf
// run is 0, and the wall's value is left, times a number without an i. It is
// never 0 itself, as the reduction needs it: of points of order R no Y is 0,
// and no two Xs are together 0, since -1 has no root modulo P.
func line(a, b, q api.Pt) api.E {
	rise, run := slope(a, b)
	up := ext.Sub(api.E{0, q.Y}, plain(a.Y))
	along := ext.Add(plain(q.X), plain(a.X))
	return ext.Add(ext.Mul(run, up), ext.Mul(rise, along))
}

// slope is the l of two points, as rise and run.
func slope(a, b api.Pt) (rise, run api.E) {
	if a == b {
		x, y := plain(a.X), plain(a.Y)
		rise = ext.Add(ext.Mul(plain(3), ext.Mul(x, x)), plain(1))
		return rise, ext.Add(y, y)
	}
	return ext.Sub(plain(a.Y), plain(b.Y)), ext.Sub(plain(a.X), plain(b.X))
}
