package gadget

import (
	"obol/api"
	"obol/modular"
)

// mostBits is how many bits are told at most.
const mostBits = 58

// Linear is a new one of terms: P12.2.
func (m *Maker) Linear(l []api.Term) int {
	terms := make([]api.Term, len(l))
	for i, t := range l {
		terms[i] = api.Term{V: m.there(t.V), K: t.K}
	}
	it := m.Private(m.value(terms))
	m.row(terms, only(0), only(it))
	return it
}

// Mul is a new one of a product: P12.2.
func (m *Maker) Mul(a, b int) int {
	return m.product(only(m.there(a)), only(m.there(b)))
}

// Same says that two are the same: P12.2.
func (m *Maker) Same(a, b int) {
	m.row(less(m.there(a), m.there(b)), only(0), nil)
}

// Bits are new ones, of bits: P12.3.
func (m *Maker) Bits(a, n int) []int {
	a = m.there(a)
	if n < 0 || n > mostBits {
		n = 0
	}
	value := m.Value(a)
	bits, sum := make([]int, n), make([]api.Term, n)
	for i := range n {
		bits[i] = m.bit(value >> i & 1)
		sum[i] = api.Term{V: bits[i], K: 1 << i}
	}
	m.row(sum, only(0), only(a))
	return bits
}

// Choose is a new one, one of two: P12.3.
func (m *Maker) Choose(bit, a, b int) int {
	bit, a, b = m.there(bit), m.there(a), m.there(b)
	part := modular.Mul(api.R, m.Value(bit), m.value(less(a, b)))
	it := m.Private(modular.Add(api.R, m.Value(b), part))
	m.row(only(bit), less(a, b), less(it, b))
	return it
}

// product is a new private one of the product of two lists.
func (m *Maker) product(a, b []api.Term) int {
	it := m.Private(modular.Mul(api.R, m.value(a), m.value(b)))
	m.row(a, b, only(it))
	return it
}

// bit is a new private one that may be 0 or 1 alone.
func (m *Maker) bit(v uint64) int {
	it := m.Private(v)
	m.row(only(it), less(it, 0), nil)
	return it
}
