package numbers_test

import (
	"math"
	"math/rand"
	"slices"
	"strings"
	"testing"

	"chert/api"
	"chert/numbers"
)

func TestValid(t *testing.T) {
	for _, c := range []struct {
		all  []int
		want bool
	}{
		{nil, true},
		{[]int{0}, true},
		{[]int{api.MaxNumber}, true},
		{[]int{0, 1, api.MaxNumber}, true},
		{[]int{-1}, false},
		{[]int{api.MaxNumber + 1}, false},
		{[]int{math.MinInt}, false},
		{[]int{math.MaxInt}, false},
		{[]int{-1, 1, 1}, false},
		{[]int{1, -1, 1}, false},
		{[]int{1, 1, api.MaxNumber + 1}, false},
	} {
		if got := numbers.Valid(c.all...); got != c.want {
			t.Errorf("Valid(%v) is %v", c.all, got)
		}
	}
}

func TestJoin(t *testing.T) {
	for _, c := range []struct {
		size int
		all  []int
		want string
	}{
		{8, nil, ""},
		{1, []int{0}, "\x00"},
		{1, []int{255, 1, 78}, "\xff\x01N"},
		{2, []int{1, 0x0203}, "\x00\x01\x02\x03"},
		{4, []int{1<<32 - 1}, "\xff\xff\xff\xff"},
		{8, []int{0x0102030405060708}, "\x01\x02\x03\x04\x05\x06\x07\x08"},
		{8, []int{-1, math.MinInt}, "\xff\xff\xff\xff\xff\xff\xff\xff\x80\x00\x00\x00\x00\x00\x00\x00"},
	} {
		if got := numbers.Join(c.size, c.all...); got != c.want {
			t.Errorf("Join(%d, %v) is %x, not %x", c.size, c.all, got, c.want)
		}
		if got := numbers.Split(c.size, c.want); !slices.Equal(got, c.all) {
			t.Errorf("Split(%d, %x) is %v, not %v", c.size, c.want, got, c.all)
		}
	}
}

func TestOf(t *testing.T) {
	for text, want := range map[string]int{
		"":                                 0,
		"\x00":                             0,
		"\xff":                             255,
		"\x01\x00":                         256,
		"\xff\xff\xff\xff":                 1<<32 - 1,
		"\x7f\xff\xff\xff\xff\xff\xff\xff": math.MaxInt,
		"\x80\x00\x00\x00\x00\x00\x00\x00": math.MinInt,
		"\xff\xff\xff\xff\xff\xff\xff\xfe": -2,
	} {
		if got := numbers.Of(text); got != want {
			t.Errorf("Of(%x) is %d, not %d", text, got, want)
		}
	}
}

func TestOrder(t *testing.T) {
	random := rand.New(rand.NewSource(1))
	for range 5000 {
		a, b := random.Intn(api.MaxNumber), random.Intn(1<<random.Intn(41))
		x, y := numbers.Join(8, a), numbers.Join(8, b)
		if (a < b) != (x < y) || strings.Compare(x, y) == 0 != (a == b) {
			t.Fatalf("%d and %d are %x and %x", a, b, x, y)
		}
		if got := numbers.Split(8, x+y); !slices.Equal(got, []int{a, b}) {
			t.Fatalf("Split of %d and %d is %v", a, b, got)
		}
	}
}
