package bch

import (
	"math/bits"

	"chert/poly"
)

const (
	halfBits  = 64
	halfBytes = halfBits / 8
	ones      = ^uint64(0)
)

// remainder is what a generator of degree d leaves: the coefficient of x^(d-1) is the top bit of high, and all bits after the first d are 0.
type remainder struct{ high, low uint64 }

// remainderFrom: the first d bits of a parity.
func remainderFrom(parity string, d int) remainder {
	var r remainder
	for i := range 2 * halfBytes {
		r = r.shifted(8)
		if i < len(parity) {
			r.low |= uint64(parity[i])
		}
	}
	r.high &^= ones >> d
	r.low &^= ones >> max(d-halfBits, 0)
	return r
}

// stepsBy: of each byte times x^d, what g of degree d leaves. (The least generator has more bits than a byte.)
func stepsBy(g poly.Poly) [256]remainder {
	var tail remainder // g without its first term
	for _, e := range g[1:] {
		tail = tail.plus(bitAt(g[0] - 1 - e))
	}
	var steps [256]remainder
	for b := range steps {
		r := remainder{high: uint64(b) << (halfBits - 8)}
		for range 8 {
			out := r.high >> (halfBits - 1)
			r = r.shifted(1)
			if out == 1 {
				r = r.plus(tail)
			}
		}
		steps[b] = r
	}
	return steps
}

// bitAt: a single bit, the top one for 0.
func bitAt(n int) remainder {
	if n < halfBits {
		return remainder{high: 1 << (halfBits - 1 - n)}
	}
	return remainder{low: 1 << (2*halfBits - 1 - n)}
}

// plus: the sum.
func (r remainder) plus(other remainder) remainder {
	return remainder{r.high ^ other.high, r.low ^ other.low}
}

// shifted: the bits moved up by n, the first n lost.
func (r remainder) shifted(n int) remainder {
	return remainder{r.high<<n | r.low>>(halfBits-n), r.low << n}
}

// first: the first eight bits.
func (r remainder) first() byte { return byte(r.high >> (halfBits - 8)) }

// text: the first n bytes.
func (r remainder) text(n int) string {
	b := make([]byte, n)
	for i := range b {
		b[i] = r.first()
		r = r.shifted(8)
	}
	return string(b)
}

// exponents: of the terms of a remainder by a generator of degree d.
func (r remainder) exponents(d int) []int {
	var list []int
	for r != (remainder{}) {
		n := bits.LeadingZeros64(r.high)
		if r.high == 0 {
			n += bits.LeadingZeros64(r.low)
		}
		list = append(list, d-1-n)
		r = r.plus(bitAt(n))
	}
	return list
}
