package poly_test

import (
	"math"
	"math/rand"
	"slices"
	"sync"
	"testing"

	"chert/api"
	"chert/gf"
	"chert/poly"
)

// bits is a polynomial of any degree, its coefficients lying open: what the tests reckon by.
type bits []bool

func open(exponents []int) bits {
	b := make(bits, api.MaxDegree+1)
	for _, e := range exponents {
		if e >= 0 && e < len(b) {
			b[e] = !b[e]
		}
	}
	return b
}

func (b bits) exponents() []int {
	var list []int
	for e := len(b) - 1; e >= 0; e-- {
		if b[e] {
			list = append(list, e)
		}
	}
	return list
}

func slowMul(a, b []int) []int {
	product := make(bits, 2*api.MaxDegree+1)
	for _, e := range open(a).exponents() {
		for _, f := range open(b).exponents() {
			product[e+f] = !product[e+f]
		}
	}
	return product.exponents()
}

func slowMod(a, b []int) []int {
	rest, divisor := open(a), open(b).exponents()
	for e := api.MaxDegree; e >= divisor[0]; e-- {
		if rest[e] {
			for _, f := range divisor {
				rest[e-divisor[0]+f] = !rest[e-divisor[0]+f]
			}
		}
	}
	return rest.exponents()
}

// anyList: exponents below most, in any order, some of them again and some out of range.
func anyList(random *rand.Rand, n, most int) poly.Poly {
	var list poly.Poly
	for range n {
		list = append(list, random.Intn(most))
		if random.Intn(4) == 0 {
			list = append(list, list[random.Intn(len(list))])
		}
		if random.Intn(8) == 0 {
			list = append(list, -1-random.Intn(99), api.MaxDegree+1+random.Intn(99))
		}
	}
	return list
}

func TestOf(t *testing.T) {
	for _, c := range []struct{ list, want []int }{
		{nil, nil},
		{[]int{0, 3, 3}, []int{0}},
		{[]int{3, 3, 3}, []int{3}},
		{[]int{5, 5}, nil},
		{[]int{1, 2, 3}, []int{3, 2, 1}},
		{[]int{-1, 0, math.MinInt}, []int{0}},
		{[]int{16384, 16385, math.MaxInt}, []int{16384}},
		{[]int{0, 63, 64, 65, 127, 128, 16383, 16384}, []int{16384, 16383, 128, 127, 65, 64, 63, 0}},
	} {
		if got := poly.Of(c.list...); !slices.Equal(got, c.want) {
			t.Errorf("Of(%v) is %v, not %v", c.list, got, c.want)
		}
	}
	random := rand.New(rand.NewSource(1))
	for range 200 {
		list := anyList(random, random.Intn(200), 1+random.Intn(api.MaxDegree+1))
		if got, want := poly.Of(list...), open(list).exponents(); !slices.Equal(got, want) {
			t.Fatalf("Of(%v) is %v, not %v", list, got, want)
		}
	}
}

func TestAdd(t *testing.T) {
	for _, c := range []struct{ a, b, want poly.Poly }{
		{nil, nil, nil},
		{poly.Poly{5}, nil, poly.Poly{5}},
		{nil, poly.Poly{5}, poly.Poly{5}},
		{poly.Poly{1, 0}, poly.Poly{2, 1}, poly.Poly{2, 0}},
		{poly.Poly{16384, 2}, poly.Poly{16384, 2}, nil},
		{poly.Poly{0, 1, 1, -4, 16385}, poly.Poly{7, 9, 7}, poly.Poly{9, 0}},
	} {
		if got := poly.Add(c.a, c.b); !slices.Equal(got, c.want) {
			t.Errorf("Add(%v, %v) is %v, not %v", c.a, c.b, got, c.want)
		}
	}
	random := rand.New(rand.NewSource(2))
	for range 200 {
		a, b := anyList(random, random.Intn(99), 300), anyList(random, random.Intn(99), 300)
		if got, want := poly.Add(a, b), open(append(slices.Clone(a), b...)).exponents(); !slices.Equal(got, want) {
			t.Fatalf("Add(%v, %v) is %v, not %v", a, b, got, want)
		}
	}
}

func TestMul(t *testing.T) {
	for _, c := range []struct {
		a, b, want poly.Poly
		ok         bool
	}{
		{poly.Poly{1, 0}, poly.Poly{1, 0}, poly.Poly{2, 0}, true},
		{poly.Poly{3, 1}, poly.Poly{0}, poly.Poly{3, 1}, true},
		{nil, nil, nil, true},
		{nil, poly.Poly{16384}, nil, true},
		{poly.Poly{16384}, nil, nil, true},
		{poly.Poly{16384}, poly.Poly{4, 4}, nil, true},
		{poly.Poly{16384, 16383}, poly.Poly{0}, poly.Poly{16384, 16383}, true},
		{poly.Poly{8192, 1}, poly.Poly{8192, 0}, poly.Poly{16384, 8193, 8192, 1}, true},
		{poly.Poly{8192}, poly.Poly{8193}, nil, false},
		{poly.Poly{16384}, poly.Poly{1}, nil, false},
		{poly.Poly{16384}, poly.Poly{16384}, nil, false},
		{poly.Poly{0, 1, -3, 5, 5}, poly.Poly{0, 20000, 1}, poly.Poly{2, 0}, true},
		{poly.Poly{9000, 9000, 1}, poly.Poly{9000}, poly.Poly{9001}, true},
	} {
		if got, ok := poly.Mul(c.a, c.b); !slices.Equal(got, c.want) || ok != c.ok {
			t.Errorf("Mul(%v, %v) is %v, %v, not %v, %v", c.a, c.b, got, ok, c.want, c.ok)
		}
	}
}

func TestMulOfAny(t *testing.T) {
	random := rand.New(rand.NewSource(3))
	for range 300 {
		most := []int{100, 1000, 8193, 9000}[random.Intn(4)]
		a, b := anyList(random, random.Intn(60), most), anyList(random, random.Intn(60), most)
		want := slowMul(a, b)
		fits := len(want) == 0 || want[0] <= api.MaxDegree
		if !fits {
			want = nil
		}
		if got, ok := poly.Mul(a, b); !slices.Equal(got, want) || ok != fits {
			t.Fatalf("Mul(%v, %v) is %v, %v, not %v, %v", a, b, got, ok, want, fits)
		}
	}
}

func TestMod(t *testing.T) {
	for _, c := range []struct {
		a, b, want poly.Poly
		ok         bool
	}{
		{poly.Poly{13}, poly.Poly{13, 4, 3, 1, 0}, poly.Poly{4, 3, 1, 0}, true},
		{poly.Poly{5, 1}, poly.Poly{0}, nil, true},
		{poly.Poly{5, 1}, poly.Poly{5, 1}, nil, true},
		{poly.Poly{5, 1}, poly.Poly{6}, poly.Poly{5, 1}, true},
		{poly.Poly{5, 1}, poly.Poly{5}, poly.Poly{1}, true},
		{nil, poly.Poly{3}, nil, true},
		{poly.Poly{16384, 16383}, poly.Poly{16384}, poly.Poly{16383}, true},
		{poly.Poly{16384}, poly.Poly{1, 0}, poly.Poly{0}, true},
		{poly.Poly{3}, nil, nil, false},
		{nil, nil, nil, false},
		{poly.Poly{3}, poly.Poly{2, 2}, nil, false},
		{poly.Poly{3}, poly.Poly{-1, 16385}, nil, false},
		{poly.Poly{0, 3, 2, 2, -1}, poly.Poly{0, 16385, 1}, nil, true},
	} {
		if got, ok := poly.Mod(c.a, c.b); !slices.Equal(got, c.want) || ok != c.ok {
			t.Errorf("Mod(%v, %v) is %v, %v, not %v, %v", c.a, c.b, got, ok, c.want, c.ok)
		}
	}
}

func TestModOfAny(t *testing.T) {
	random := rand.New(rand.NewSource(4))
	for range 300 {
		a := anyList(random, random.Intn(60), 1+random.Intn(api.MaxDegree+1))
		b := append(anyList(random, random.Intn(60), 1+random.Intn(2000)), 2001+random.Intn(99))
		if got, ok := poly.Mod(a, b); !slices.Equal(got, slowMod(a, b)) || !ok {
			t.Fatalf("Mod(%v, %v) is %v, %v, not %v", a, b, got, ok, slowMod(a, b))
		}
	}
}

// value: of a polynomial at an element.
func value(f *gf.Field, p poly.Poly, x int) int {
	sum := 0
	for _, e := range p {
		sum ^= f.Pow(x, e)
	}
	return sum
}

// leastDegree: how many powers of x, from 1 on, stand before the first one that is a sum of others.
func leastDegree(f *gf.Field, x int) int {
	var basis [13]int
	for n := 0; ; n++ {
		power := f.Pow(x, n)
		for bit := 12; bit >= 0 && power != 0; bit-- {
			if power>>bit&1 == 0 {
				continue
			}
			if basis[bit] == 0 {
				basis[bit] = power
				break
			}
			power ^= basis[bit]
		}
		if power == 0 {
			return n
		}
	}
}

func TestMinimal(t *testing.T) {
	var f gf.Field
	list := []int{-8192, -8191, -8190, -1, 8190, 8191, 8192, 8193, math.MaxInt, math.MinInt, math.MinInt + 1}
	for k := range 200 {
		list = append(list, k)
	}
	for _, k := range list {
		p := poly.Minimal(&f, k)
		if len(p) == 0 || !slices.Equal(p, poly.Of(p...)) || value(&f, p, f.Exp(k)) != 0 || p[0] != leastDegree(&f, f.Exp(k)) {
			t.Errorf("Minimal(%d) is %v", k, p)
		}
	}
	if p := poly.Minimal(&f, 1); !slices.Equal(p, poly.Poly{13, 4, 3, 1, 0}) {
		t.Errorf("Minimal(1) is %v", p)
	}
	for _, k := range []int{0, 8191, -8191} {
		if p := poly.Minimal(&f, k); !slices.Equal(p, poly.Poly{1, 0}) {
			t.Errorf("Minimal(%d) is %v", k, p)
		}
	}
}

func TestMinimalOfSquares(t *testing.T) {
	var f gf.Field
	for k := range 50 {
		p := poly.Minimal(&f, k)
		for _, same := range []int{2 * k, 4 * k, k << 12, k << 13, k << 20, k - 8191} {
			if q := poly.Minimal(&f, same); !slices.Equal(p, q) {
				t.Errorf("Minimal(%d) is %v, Minimal(%d) is %v", k, p, same, q)
			}
		}
	}
}

func TestGenerator(t *testing.T) {
	var f gf.Field
	want := []int{0}
	var factors []poly.Poly
	for n := 1; n <= api.MaxT; n++ {
		m := poly.Minimal(&f, 2*n-1)
		if !slices.ContainsFunc(factors, func(p poly.Poly) bool { return slices.Equal(p, m) }) {
			factors = append(factors, m)
			want = slowMul(want, m)
		}
		g, ok := poly.Generator(&f, n)
		if !ok || !slices.Equal(g, want) || g[0] != 13*n {
			t.Errorf("Generator(%d) is %v, %v, not %v", n, g, ok, want)
		}
		for k := 1; k <= 2*n; k++ {
			if value(&f, g, f.Exp(k)) != 0 {
				t.Errorf("Generator(%d) is not 0 at Exp(%d)", n, k)
			}
		}
	}
	if g, _ := poly.Generator(&f, 1); !slices.Equal(g, poly.Poly{13, 4, 3, 1, 0}) {
		t.Errorf("Generator(1) is %v", g)
	}
	for _, n := range []int{0, -1, 9, math.MinInt, math.MaxInt} {
		if g, ok := poly.Generator(&f, n); len(g) != 0 || ok {
			t.Errorf("Generator(%d) is %v, %v", n, g, ok)
		}
	}
}

func TestNilField(t *testing.T) {
	if p := poly.Minimal(nil, 1); len(p) != 0 {
		t.Errorf("Minimal is %v", p)
	}
	for _, n := range []int{0, 1, 8, 9} {
		if g, ok := poly.Generator(nil, n); len(g) != 0 || ok {
			t.Errorf("Generator(%d) is %v, %v", n, g, ok)
		}
	}
}

// TestFieldCountsItsOwnerAlone: a field that is passed tells the same Products afterwards.
func TestFieldCountsItsOwnerAlone(t *testing.T) {
	var f gf.Field
	f.Mul(2, 3)
	poly.Minimal(&f, 5)
	poly.Generator(&f, 8)
	if f.Products() != 1 {
		t.Errorf("%d products", f.Products())
	}
}

func TestArgumentsStayAsTheyAre(t *testing.T) {
	a := poly.Poly{1, 9, 9, -1, 3, 70, 71}
	b := poly.Poly{0, 2, 2, 5, 80, 81}
	keepA, keepB := slices.Clone(a), slices.Clone(b)
	partA, partB := a[:5], b[:4]
	poly.Of(partA...)
	poly.Add(partA, partB)
	poly.Mul(partA, partB)
	poly.Mod(partA, partB)
	if !slices.Equal(a, keepA) || !slices.Equal(b, keepB) {
		t.Errorf("%v, %v", a, b)
	}
}

func TestResultsAreNew(t *testing.T) {
	a, one, none := poly.Poly{9, 3, 1}, poly.Poly{0}, poly.Poly{}
	product, _ := poly.Mul(a, one)
	mirrored, _ := poly.Mul(one, a)
	rest, _ := poly.Mod(a, poly.Poly{100})
	for _, p := range []poly.Poly{poly.Of(a...), poly.Add(a, none), poly.Add(none, a), product, mirrored, rest} {
		if !slices.Equal(p, poly.Poly{9, 3, 1}) {
			t.Fatalf("%v", p)
		}
		p[0] = 77
	}
	if a[0] != 9 || one[0] != 0 {
		t.Error("a result shares an argument's memory")
	}
	var f gf.Field
	poly.Minimal(&f, 1)[0] = 77
	g, _ := poly.Generator(&f, 1)
	g[0] = 77
	if g, _ := poly.Generator(&f, 1); g[0] != 13 || poly.Minimal(&f, 1)[0] != 13 {
		t.Error("a result shares memory with a later one")
	}
}

func TestGoroutinesShareAField(t *testing.T) {
	var f gf.Field
	var group sync.WaitGroup
	degrees := make([]int, 8)
	for i := range degrees {
		group.Add(1)
		go func() {
			defer group.Done()
			if g, ok := poly.Generator(&f, i+1); ok {
				degrees[i] = g[0]
			}
		}()
	}
	group.Wait()
	if !slices.Equal(degrees, []int{13, 26, 39, 52, 65, 78, 91, 104}) {
		t.Errorf("%v", degrees)
	}
}
