package gf

import (
	"math"
	"math/rand"
	"slices"
	"sync"
	"testing"
)

// slowMul multiplies by the chapter's words: the product of the polynomials, and then its remainder.
func slowMul(a, b int) int {
	product := 0
	for i := 0; i < 13; i++ {
		if b>>i&1 == 1 {
			product ^= a & 8191 << i
		}
	}
	for i := 24; i >= 13; i-- {
		if product>>i&1 == 1 {
			product ^= 0b10000000011011 << (i - 13)
		}
	}
	return product
}

// slowPow multiplies n factors, for n from 0 on.
func slowPow(a, n int) int {
	power := 1
	for range n {
		power = slowMul(power, a)
	}
	return power
}

// numbers: elements, and others that are passed as elements.
func numbers() []int {
	random := rand.New(rand.NewSource(1))
	list := []int{0, 1, 2, 3, 27, 4095, 4096, 8190, 8191, 8192, 8193, 1 << 20, 1<<20 + 5,
		-1, -2, -8191, -8192, -8193, math.MaxInt, math.MinInt, math.MinInt + 7}
	for range 30 {
		list = append(list, random.Intn(8192), int(random.Uint64()))
	}
	return list
}

func TestMul(t *testing.T) {
	var f Field
	for _, c := range [][3]int{{4096, 2, 27}, {3, 3, 5}, {0, 9, 0}, {9, 0, 0}, {1, 8191, 8191}, {8193, 8194, 2}, {-1, 1, 8191}} {
		if got := f.Mul(c[0], c[1]); got != c[2] {
			t.Errorf("Mul(%d, %d) is %d, not %d", c[0], c[1], got, c[2])
		}
	}
	for _, a := range numbers() {
		for _, b := range numbers() {
			if got, want := f.Mul(a, b), slowMul(a, b); got != want {
				t.Fatalf("Mul(%d, %d) is %d, not %d", a, b, got, want)
			}
		}
	}
}

func TestMulOfEachElement(t *testing.T) {
	var f Field
	for a := range 8192 {
		for _, b := range []int{1, 2, 4096, 8191, a} {
			if got, want := f.Mul(a, b), slowMul(a, b); got != want {
				t.Fatalf("Mul(%d, %d) is %d, not %d", a, b, got, want)
			}
		}
	}
}

func TestInv(t *testing.T) {
	var f Field
	for a := 1; a < 8192; a++ {
		inverse, ok := f.Inv(a)
		if !ok || inverse < 1 || inverse > 8191 || slowMul(a, inverse) != 1 {
			t.Fatalf("Inv(%d) is %d, %v", a, inverse, ok)
		}
	}
	for _, a := range []int{0, 8192, -8192, 1 << 30, math.MinInt} {
		if inverse, ok := f.Inv(a); inverse != 0 || ok {
			t.Errorf("Inv(%d) is %d, %v", a, inverse, ok)
		}
	}
	for _, a := range numbers() {
		inverse, ok := f.Inv(a)
		if lower, lowerOK := f.Inv(a & 8191); inverse != lower || ok != lowerOK {
			t.Errorf("Inv(%d) is %d, %v", a, inverse, ok)
		}
	}
}

func TestPow(t *testing.T) {
	var f Field
	for _, a := range numbers() {
		for _, n := range []int{0, 1, 2, 3, 5, 13, 100, 8190, 8191, 8192} {
			if got, want := f.Pow(a, n), slowPow(a, n); got != want {
				t.Fatalf("Pow(%d, %d) is %d, not %d", a, n, got, want)
			}
		}
	}
}

func TestPowOfNegative(t *testing.T) {
	var f Field
	for _, a := range numbers() {
		if a&8191 == 0 {
			continue
		}
		inverse, _ := f.Inv(a)
		for _, n := range []int{1, 2, 13, 8190, 8191, 8192} {
			if got, want := f.Pow(a, -n), slowPow(inverse, n); got != want {
				t.Fatalf("Pow(%d, %d) is %d, not %d", a, -n, got, want)
			}
		}
	}
}

func TestPowOfNoughtAndOfAnyNumber(t *testing.T) {
	var f Field
	for _, a := range []int{0, 8192, -8192} {
		for n, want := range map[int]int{0: 1, 1: 0, 8191: 0, -1: 0, -3: 0, -8191: 0, math.MaxInt: 0, math.MinInt: 0} {
			if got := f.Pow(a, n); got != want {
				t.Errorf("Pow(%d, %d) is %d, not %d", a, n, got, want)
			}
		}
	}
	for _, n := range []int{math.MaxInt, math.MaxInt - 1, math.MinInt, math.MinInt + 1} {
		turns := (n%8191 + 8191) % 8191
		for _, a := range []int{1, 2, 3, 5000, 8191} {
			if got, want := f.Pow(a, n), slowPow(a, turns); got != want {
				t.Errorf("Pow(%d, %d) is %d, not %d", a, n, got, want)
			}
		}
	}
}

func TestExpAndLog(t *testing.T) {
	var f Field
	want := 1
	seen := make([]bool, 8192)
	for n := range 8191 {
		if got := f.Exp(n); got != want || seen[got] {
			t.Fatalf("Exp(%d) is %d, not %d", n, got, want)
		}
		seen[want] = true
		for _, far := range []int{n - 8191, n + 8191, n - 8191*100003, n + 8191*100003} {
			if got := f.Exp(far); got != want {
				t.Fatalf("Exp(%d) is %d, not %d", far, got, want)
			}
		}
		for _, a := range []int{want, want + 8192, want - 8192} {
			if log, ok := f.Log(a); log != n || !ok {
				t.Fatalf("Log(%d) is %d, %v, not %d", a, log, ok, n)
			}
		}
		want = slowMul(want, 2)
	}
	if f.Exp(13) != 27 {
		t.Error("Exp(13)")
	}
}

func TestExpOfTheOutermost(t *testing.T) {
	var f Field
	for _, n := range []int{math.MaxInt, math.MinInt, math.MinInt + 1} {
		if got, want := f.Exp(n), slowPow(2, (n%8191+8191)%8191); got != want {
			t.Errorf("Exp(%d) is %d, not %d", n, got, want)
		}
	}
}

func TestLogOfNought(t *testing.T) {
	var f Field
	for _, a := range []int{0, 8192, -8192, math.MinInt} {
		if log, ok := f.Log(a); log != 0 || ok {
			t.Errorf("Log(%d) is %d, %v", a, log, ok)
		}
	}
}

func TestEval(t *testing.T) {
	var f Field
	for _, c := range []struct {
		poly    []int
		x, want int
	}{
		{[]int{1, 1}, 5, 4},
		{nil, 5, 0},
		{[]int{}, 0, 0},
		{[]int{7}, 0, 7},
		{[]int{7, 9, 11}, 0, 7},
		{[]int{0, 0, 1}, 3, 5},
		{[]int{8192 + 7}, 3, 7},
		{[]int{-1, 0}, 3, 8191},
	} {
		if got := f.Eval(c.poly, c.x); got != c.want {
			t.Errorf("Eval(%v, %d) is %d, not %d", c.poly, c.x, got, c.want)
		}
	}
	list := numbers()
	for _, x := range numbers() {
		want := 0
		for i, c := range list {
			want ^= slowMul(c&8191, slowPow(x, i))
		}
		if got := f.Eval(list, x); got != want {
			t.Fatalf("Eval at %d is %d, not %d", x, got, want)
		}
	}
}

func TestEvalChangesNoArgument(t *testing.T) {
	var f Field
	whole := []int{-1, 8193, 5, 77, 78}
	f.Eval(whole[:3], 9)
	if !slices.Equal(whole, []int{-1, 8193, 5, 77, 78}) {
		t.Errorf("%v", whole)
	}
}

func TestProducts(t *testing.T) {
	var f, other Field
	if f.Products() != 0 {
		t.Error("of a new field")
	}
	f.Inv(3)
	f.Pow(3, 77)
	f.Pow(3, -77)
	f.Exp(5)
	f.Log(5)
	f.Eval([]int{1, 2, 3}, 4)
	if got := f.Products(); got != 0 {
		t.Errorf("%d calls of Mul without one", got)
	}
	for i, c := range [][2]int{{3, 4}, {0, 4}, {4, 0}, {1 << 20, -1}, {3, 4}} {
		f.Mul(c[0], c[1])
		if got := f.Products(); got != i+1 {
			t.Errorf("%d calls, not %d", got, i+1)
		}
	}
	if other.Products() != 0 {
		t.Error("another field's calls are told")
	}
}

func TestNilField(t *testing.T) {
	var f *Field
	if f.Mul(3, 3) != 0 || f.Pow(3, 0) != 0 || f.Pow(3, 2) != 0 || f.Exp(0) != 0 || f.Exp(13) != 0 || f.Eval([]int{1}, 1) != 0 || f.Products() != 0 {
		t.Error("a number of a nil field is not 0")
	}
	if a, ok := f.Inv(1); a != 0 || ok {
		t.Error("Inv")
	}
	if n, ok := f.Log(27); n != 0 || ok {
		t.Error("Log")
	}
}

func TestTablesAreComputedOnceWhenNeeded(t *testing.T) {
	var f Field
	f.Products()
	if f.powers != nil || f.logs != nil {
		t.Fatal("tables ahead of the need")
	}
	f.Exp(1)
	powers, logs := &f.powers[0], &f.logs[0]
	f.Mul(5, 7)
	f.Log(5)
	f.Eval([]int{3, 4}, 5)
	if powers != &f.powers[0] || logs != &f.logs[0] {
		t.Error("tables were computed again")
	}
}

// TestGoroutines begins with a field without tables, so that several of them need these at once.
func TestGoroutines(t *testing.T) {
	var f Field
	var group sync.WaitGroup
	wrong := make([]int, 8)
	for g := range wrong {
		group.Add(1)
		go func() {
			defer group.Done()
			for n := range 1000 {
				a := f.Exp(n + g)
				log, _ := f.Log(a)
				inverse, _ := f.Inv(a)
				if log != n+g || f.Mul(a, inverse) != 1 || f.Eval([]int{a, 1}, a) != 0 || f.Pow(2, n+g) != a {
					wrong[g]++
				}
			}
		}()
	}
	group.Wait()
	for g, n := range wrong {
		if n != 0 {
			t.Errorf("goroutine %d: %d wrong answers", g, n)
		}
	}
	if got := f.Products(); got != 8000 {
		t.Errorf("%d calls, not 8000", got)
	}
}
