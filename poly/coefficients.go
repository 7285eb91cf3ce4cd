package poly

import (
	"math/bits"

	"chert/api"
)

const (
	wordBits = 64
	words    = api.MaxDegree/wordBits + 1
)

// coefficients is a polynomial as bits, that of x^i in bit i: a whole word of them is added at once.
type coefficients [words]uint64

// gather: the sum of powers; those out of range are ignored.
func gather(exponents []int) coefficients {
	var c coefficients
	for _, e := range exponents {
		if e >= 0 && e <= api.MaxDegree {
			c[e/wordBits] ^= 1 << (e % wordBits)
		}
	}
	return c
}

// has: is the coefficient of x^e 1?
func (c *coefficients) has(e int) bool {
	return c[e/wordBits]>>(e%wordBits)&1 == 1
}

// addShifted adds other times x^n, whose degree the caller keeps within MaxDegree.
func (c *coefficients) addShifted(other *coefficients, n int) {
	skip, shift := n/wordBits, n%wordBits
	for i := skip; i < words; i++ {
		c[i] ^= other[i-skip] << shift
		if i > skip {
			c[i] ^= other[i-skip-1] >> (wordBits - shift)
		}
	}
}

// poly: the exponents, falling.
func (c *coefficients) poly() Poly {
	var p Poly
	for i := words - 1; i >= 0; i-- {
		for w := c[i]; w != 0; {
			top := bits.Len64(w) - 1
			p = append(p, i*wordBits+top)
			w ^= 1 << top
		}
	}
	return p
}
