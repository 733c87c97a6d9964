package gadget

import (
	"obol/api"
	"obol/modular"
)

// Two is the hash of two: P12.4.
func (m *Maker) Two(a, b int) int {
	a, b = m.there(a), m.there(b)
	x := b
	for i := range uint64(api.Rounds) {
		l := []api.Term{{V: x, K: 1}, {V: a, K: 1}, {V: 0, K: modular.Pow(api.R, 7, i+1)}}
		x = m.product(only(m.product(l, l)), l)
	}
	return m.Linear([]api.Term{{V: x, K: 1}, {V: a, K: 2}, {V: b, K: 1}})
}

// Many is the hash of a list: P12.4. What a number of the list counts as is asked
// no sooner than its Two comes, as what is made ahead of it is there by then.
func (m *Maker) Many(l []int) int {
	h := m.Linear([]api.Term{{V: 0, K: uint64(len(l))}})
	for _, v := range l {
		h = m.Two(h, v)
	}
	return h
}
