// Package poly is layer 2: see shared/doc/02-poly.md.
package poly

import (
	"chert/api"
	"chert/gf"
)

// Poly is a polynomial over two numbers: the exponents of its terms, falling.
type Poly []int

// Of: the polynomial that is the sum of these powers.
func Of(exponents ...int) Poly {
	c := gather(exponents)
	return c.poly()
}

// Add: the sum.
func Add(a, b Poly) Poly {
	sum, other := gather(a), gather(b)
	sum.addShifted(&other, 0)
	return sum.poly()
}

// Mul: the product.
func Mul(a, b Poly) (Poly, bool) {
	a, b = Of(a...), Of(b...)
	if len(a) == 0 || len(b) == 0 {
		return nil, true
	}
	if a[0]+b[0] > api.MaxDegree {
		return nil, false
	}
	var product coefficients
	factor := gather(b)
	for _, e := range a {
		product.addShifted(&factor, e)
	}
	return product.poly(), true
}

// Mod: the remainder.
func Mod(a, b Poly) (Poly, bool) {
	b = Of(b...)
	if len(b) == 0 {
		return nil, false
	}
	rest, divisor := gather(a), gather(b)
	for e := api.MaxDegree; e >= b[0]; e-- {
		if rest.has(e) {
			rest.addShifted(&divisor, e-b[0])
		}
	}
	return rest.poly(), true
}

// Minimal: the least polynomial of which a power of the generator is a root.
func Minimal(f *gf.Field, k int) Poly {
	if f == nil {
		return nil
	}
	first := f.Exp(k)
	product := withRoot(f, []int{1}, first)
	for root := f.Pow(first, 2); root != first; root = f.Pow(root, 2) {
		product = withRoot(f, product, root)
	}
	var exponents []int
	for e, c := range product {
		if c == 1 {
			exponents = append(exponents, e)
		}
	}
	return Of(exponents...)
}

// Generator: the product of the least polynomials of the first odd powers.
func Generator(f *gf.Field, t int) (Poly, bool) {
	if f == nil || t < 1 || t > api.MaxT {
		return nil, false
	}
	product := Of(0)
	for k := 1; k < 2*t; k += 2 { // up to MaxT no two of these powers have the same Minimal
		product, _ = Mul(product, Minimal(f, k))
	}
	return product, true
}

// withRoot multiplies a polynomial over the field (its constant term first) by x + root.
// Each new coefficient is an Eval, so that Products stays what the field's owner asked.
func withRoot(f *gf.Field, p []int, root int) []int {
	product := make([]int, len(p)+1)
	product[0] = f.Eval([]int{0, p[0]}, root)
	for i := 1; i < len(p); i++ {
		product[i] = f.Eval([]int{p[i-1], p[i]}, root)
	}
	product[len(p)] = p[len(p)-1]
	return product
}
