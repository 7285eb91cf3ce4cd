package fs

import (
	"maps"
	"math/rand"
	"slices"
	"testing"
)

// TestPutIsUndone: even if a key is put again and again.
func TestPutIsUndone(t *testing.T) {
	random := rand.New(rand.NewSource(1))
	s := stockOf(nil)
	for range 200 {
		var items []item
		for range random.Intn(20) {
			items = append(items, item{string(rune('a' + random.Intn(10))), random.Intn(3)})
		}
		keys, sizes := slices.Clone(s.keys), maps.Clone(s.sizes)
		undo := s.put(items)
		want := maps.Clone(sizes)
		for _, i := range items {
			want[i.key] = i.size
		}
		maps.DeleteFunc(want, func(_ string, size int) bool { return size == 0 })
		if !maps.Equal(s.sizes, want) {
			t.Fatalf("%v makes %v, not %v", items, s.sizes, want)
		}
		if !slices.IsSorted(s.keys) || len(s.keys) != len(s.sizes) {
			t.Fatalf("the keys are %q", s.keys)
		}
		if random.Intn(2) == 0 {
			s.put(undo)
			if !slices.Equal(s.keys, keys) || !maps.Equal(s.sizes, sizes) {
				t.Fatalf("%v is %v again, not %v", items, s.sizes, sizes)
			}
		}
	}
}
