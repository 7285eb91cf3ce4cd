// Package gf is layer 1: see shared/doc/01-gf.md.
package gf

import (
	"sync"
	"sync/atomic"
)

const (
	degree  = 13
	size    = 1 << degree // how many elements there are
	mask    = size - 1
	order   = size - 1 // how many powers the generator has
	modulus = 1<<degree | 1<<4 | 1<<3 | 1<<1 | 1
)

// Field is the field of 8192 elements.
type Field struct {
	once     sync.Once
	powers   []int // the generator's, twice over: a sum of two logarithms is a place in it
	logs     []int
	products atomic.Int64
}

// Mul: the product.
func (f *Field) Mul(a, b int) int {
	if f == nil {
		return 0
	}
	f.products.Add(1)
	f.prepare()
	return f.product(a&mask, b&mask)
}

// Inv: the inverse.
func (f *Field) Inv(a int) (int, bool) {
	n, ok := f.Log(a)
	if !ok {
		return 0, false
	}
	return f.powers[order-n], true
}

// Pow: a power.
func (f *Field) Pow(a, n int) int {
	if f == nil {
		return 0
	}
	if n == 0 {
		return 1
	}
	log, ok := f.Log(a)
	if !ok {
		return 0
	}
	return f.Exp(log * turn(n))
}

// Exp: a power of the generator.
func (f *Field) Exp(n int) int {
	if f == nil {
		return 0
	}
	f.prepare()
	return f.powers[turn(n)]
}

// Log: which power of the generator an element is.
func (f *Field) Log(a int) (int, bool) {
	if f == nil || a&mask == 0 {
		return 0, false
	}
	f.prepare()
	return f.logs[a&mask], true
}

// Eval: a polynomial's value.
func (f *Field) Eval(poly []int, x int) int {
	if f == nil {
		return 0
	}
	f.prepare()
	value := 0
	for i := len(poly) - 1; i >= 0; i-- {
		value = f.product(value, x&mask) ^ poly[i]&mask
	}
	return value
}

// Products: how often Mul was asked.
func (f *Field) Products() int {
	if f == nil {
		return 0
	}
	return int(f.products.Load())
}

// prepare computes the tables, if no call did so before.
func (f *Field) prepare() {
	f.once.Do(func() {
		f.powers = make([]int, 2*order)
		f.logs = make([]int, size)
		element := 1
		for n := range order {
			f.powers[n], f.powers[n+order] = element, element
			f.logs[element] = n
			element = double(element)
		}
	})
}

// product is Mul uncounted, for two elements and prepared tables.
func (f *Field) product(a, b int) int {
	if a == 0 || b == 0 {
		return 0
	}
	return f.powers[f.logs[a]+f.logs[b]]
}

// double: the product of an element and the generator.
func double(a int) int {
	a <<= 1
	if a >= size {
		a ^= modulus
	}
	return a
}

// turn: the number from 0 to order-1 that stands for the same power of the generator.
func turn(n int) int {
	n %= order
	if n < 0 {
		n += order
	}
	return n
}
