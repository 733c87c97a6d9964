package edwards

import "obol/api"

// wide is the point x / z, y / z. A multiple takes up to 128 sums, and an
// inverse takes longer than all the rest of a sum: so none is taken till the
// last of them is there. z is never 0.
type wide struct{ x, y, z uint64 }

// widen makes 0 of what is no point, as it has to count.
func widen(a api.Ed) wide {
	if !Is(a) {
		a = zero()
	}
	return wide{x: a.X, y: a.Y, z: 1}
}

func narrow(a wide) api.Ed {
	inverse := over(1, a.z)
	return api.Ed{X: times(a.x, inverse), Y: times(a.y, inverse)}
}

// sum is the chapter's one: less is 1 - k and more is 1 + k, both so often as
// the square of both zs together.
func sum(a, b wide) wide {
	z := times(a.z, b.z)
	square := times(z, z)
	k := times(times(api.EdD, times(a.x, b.x)), times(a.y, b.y))
	less, more := minus(square, k), plus(square, k)
	x := plus(times(a.x, b.y), times(a.y, b.x))
	y := plus(times(a.y, b.y), times(a.x, b.x))
	return wide{
		x: times(times(z, x), less),
		y: times(times(z, y), more),
		z: times(less, more),
	}
}
