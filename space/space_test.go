package space_test

import (
	"math"
	"slices"
	"testing"

	"chert/api"
	"chert/space"
)

// example: the geometry of the chapter's example.
func example() api.Geometry {
	return api.Geometry{Blocks: 16, Pages: 16, Chunks: 1, Chunk: 256, T: 1}
}

// planOf: the plan of a geometry that is sufficient.
func planOf(t *testing.T, g api.Geometry) space.Plan {
	t.Helper()
	p, ok := space.Of(g)
	if !ok {
		t.Fatalf("%v is not sufficient", g)
	}
	return p
}

// plans: those of each number of blocks and pages, with payloads of several sizes.
func plans(t *testing.T) []space.Plan {
	var list []space.Plan
	for blocks := 12; blocks <= api.MaxBlocks; blocks++ {
		for pages := 16; pages <= api.MaxPages; pages += 4 {
			for chunks := 1; chunks <= api.MaxChunks; chunks++ {
				list = append(list, planOf(t, api.Geometry{Blocks: blocks, Pages: pages, Chunks: chunks, Chunk: 256, T: 1}))
			}
		}
	}
	return list
}

// madeByHand: plans that Of makes of no geometry.
func madeByHand() []space.Plan {
	var list []space.Plan
	numbers := []int{math.MinInt, -1, 0, 1, 5, 249, math.MaxInt}
	for _, half := range numbers {
		for _, room := range numbers {
			for _, bytes := range append(numbers, 199, api.MaxRaw, api.MaxRaw+1) {
				list = append(list, space.Plan{Half: half, Room: room, Bytes: bytes})
			}
		}
	}
	return list
}

func checkOf(t *testing.T, g api.Geometry, want space.Plan, ok bool) {
	t.Helper()
	if got, gotOK := space.Of(g); got != want || gotOK != ok {
		t.Errorf("Of(%v) is %v, %v, not %v, %v", g, got, gotOK, want, ok)
	}
}

// many: so many times the same number.
func many(times, n int) []int { return slices.Repeat([]int{n}, times) }

func TestExample(t *testing.T) {
	p := planOf(t, example())
	if want := (space.Plan{Journal: 2, Half: 5, Room: 11, Bytes: 249, Single: 5}); p != want {
		t.Errorf("the plan is %v, not %v", p, want)
	}
	if p.Capacity() != 16 {
		t.Errorf("Capacity is %d", p.Capacity())
	}
}

func TestOf(t *testing.T) {
	checkOf(t, api.Geometry{Blocks: 12, Pages: 16, Chunks: 1, Chunk: 256, T: 1}, space.Plan{Journal: 2, Half: 3, Room: 11, Bytes: 249, Single: 5}, true)
	checkOf(t, api.Geometry{Blocks: 14, Pages: 16, Chunks: 2, Chunk: 128, T: 2}, space.Plan{Journal: 2, Half: 4, Room: 11, Bytes: 249, Single: 5}, true)
	checkOf(t, api.Geometry{Blocks: 23, Pages: 20, Chunks: 3, Chunk: 86, T: 8}, space.Plan{Journal: 2, Half: 8, Room: 15, Bytes: 251, Single: 7}, true)
	checkOf(t, api.Geometry{Blocks: 24, Pages: 32, Chunks: 4, Chunk: 64, T: 4}, space.Plan{Journal: 3, Half: 8, Room: 27, Bytes: 249, Single: 13}, true)
	checkOf(t, api.Geometry{Blocks: 25, Pages: 24, Chunks: 4, Chunk: 100, T: 3}, space.Plan{Journal: 3, Half: 9, Room: 19, Bytes: 393, Single: 9}, true)
	checkOf(t, api.Geometry{Blocks: 63, Pages: 60, Chunks: 4, Chunk: 255, T: 1}, space.Plan{Journal: 7, Half: 26, Room: 55, Bytes: 1013, Single: 27}, true)
	checkOf(t, api.Geometry{Blocks: 64, Pages: 64, Chunks: 4, Chunk: 256, T: 8}, space.Plan{Journal: 8, Half: 26, Room: 59, Bytes: 1017, Single: 29}, true)
}

func TestOfWhatIsNotSufficient(t *testing.T) {
	for _, wrong := range []int{math.MinInt, -1, 0, 1, 11, 65, math.MaxInt} {
		g := example()
		g.Blocks = wrong
		checkOf(t, g, space.Plan{}, false)
	}
	for _, wrong := range []int{math.MinInt, -16, 0, 4, 12, 15, 17, 18, 63, 65, 68, math.MaxInt} {
		g := example()
		g.Pages = wrong
		checkOf(t, g, space.Plan{}, false)
	}
	for _, wrong := range []int{math.MinInt, -1, 0, 5, math.MaxInt} {
		g := example()
		g.Chunks = wrong
		checkOf(t, g, space.Plan{}, false)
	}
	for _, wrong := range []int{math.MinInt, -1, 0, 15, 16, 255, 257, math.MaxInt} {
		g := example()
		g.Chunk = wrong
		checkOf(t, g, space.Plan{}, false)
	}
	for _, wrong := range []int{math.MinInt, -1, 0, 9, math.MaxInt} {
		g := example()
		g.T = wrong
		checkOf(t, g, space.Plan{}, false)
	}
	checkOf(t, api.Geometry{}, space.Plan{}, false)
}

// slowOf: the plan by the chapters' words.
func slowOf(g api.Geometry) (space.Plan, bool) {
	bytes := g.Chunks*g.Chunk - 7
	valid := g.Blocks >= 1 && g.Blocks <= 64 && g.Pages >= 4 && g.Pages <= 64 && g.Pages%4 == 0 &&
		g.Chunks >= 1 && g.Chunks <= 4 && g.Chunk >= 16 && g.Chunk <= 256 && g.T >= 1 && g.T <= 8
	if !valid || g.Blocks < 12 || g.Pages < 16 || bytes < 249 {
		return space.Plan{}, false
	}
	p := space.Plan{Journal: 2, Bytes: bytes}
	for p.Journal+1 <= g.Blocks/8 {
		p.Journal++
	}
	for 2*(p.Half+1) <= g.Blocks-p.Journal-4 {
		p.Half++
	}
	// The last lower page is the third from the end; pages 0, 1, 4, 5, 8, 9 and so on are lower ones.
	p.Room = g.Pages - 3 - 2
	for n := range g.Pages - 3 {
		if n%4 < 2 {
			p.Single++
		}
	}
	p.Single -= 2
	return p, true
}

func TestOfEachGeometry(t *testing.T) {
	for blocks := -1; blocks <= api.MaxBlocks+1; blocks++ {
		for pages := -4; pages <= api.MaxPages+4; pages++ {
			for _, chunk := range []api.Geometry{{Chunks: 1, Chunk: 256, T: 1}, {Chunks: 2, Chunk: 127, T: 1}, {Chunks: 3, Chunk: 86, T: 9}, {Chunks: 4, Chunk: 99, T: 8}} {
				g := api.Geometry{Blocks: blocks, Pages: pages, Chunks: chunk.Chunks, Chunk: chunk.Chunk, T: chunk.T}
				want, ok := slowOf(g)
				checkOf(t, g, want, ok)
			}
		}
	}
	for chunks := -1; chunks <= api.MaxChunks+1; chunks++ {
		for chunk := -1; chunk <= api.MaxChunk+1; chunk++ {
			for bits := -1; bits <= api.MaxT+1; bits++ {
				g := api.Geometry{Blocks: 16, Pages: 16, Chunks: chunks, Chunk: chunk, T: bits}
				want, ok := slowOf(g)
				checkOf(t, g, want, ok)
			}
		}
	}
}

func checkFits(t *testing.T, p space.Plan, keys, bytes []int, want bool) {
	t.Helper()
	if got := p.Fits(keys, bytes); got != want {
		t.Errorf("Fits of %d nodes in %v is %v", len(keys), p, got)
	}
}

func TestFits(t *testing.T) {
	p := planOf(t, example())
	checkFits(t, p, nil, nil, true)
	checkFits(t, p, many(44, 1), many(44, 249), true)  // 4 blocks and 1
	checkFits(t, p, many(45, 1), many(45, 249), false) // 5 blocks and 1
	checkFits(t, p, many(22, 64), many(22, 249), true) // 2 blocks and 1
	// Three keys of 64 bytes go to a page of the index, on each level.
	checkFits(t, p, many(33, 64), many(33, 249), true)  // 33 pages, and 11 + 4 + 2 + 1
	checkFits(t, p, many(34, 64), many(34, 249), false) // 34 pages, and 12 + 4 + 2 + 1
	checkFits(t, p, many(63, 64), many(63, 83), true)   // 21 pages, and 21 + 7 + 3 + 1
	checkFits(t, p, many(64, 64), many(64, 83), false)  // 22 pages, and 22 + 8 + 3 + 1
}

func TestFitsOfWhatIsWrong(t *testing.T) {
	p := planOf(t, example())
	checkFits(t, p, many(2, 1), many(1, 1), false)
	checkFits(t, p, many(1, 0), many(1, 1), false)
	checkFits(t, p, many(1, 65), many(1, 1), false)
	checkFits(t, p, many(1, 1), many(1, 0), false)
	checkFits(t, p, many(1, 1), many(1, 250), false)
	checkFits(t, space.Plan{}, nil, nil, false)
	checkFits(t, space.Plan{}, many(1, 1), many(1, 1), false)
}

// roundedUp: how many blocks so many pages take.
func roundedUp(pages, room int) int {
	blocks := 0
	for ; pages > 0; pages -= room {
		blocks++
	}
	return blocks
}

func TestCapacity(t *testing.T) {
	for _, p := range plans(t) {
		want := 0
		for roundedUp(want+1, p.Room)+roundedUp(2*(want+1), p.Room) <= p.Half {
			want++
		}
		if got := p.Capacity(); got != want {
			t.Errorf("Capacity of %v is %d, not %d", p, got, want)
		}
	}
	if got := (space.Plan{}).Capacity(); got != 0 {
		t.Errorf("Capacity of a zero Plan is %d", got)
	}
}

// TestCapacityFits: so many nodes fit even if each of them takes a page, with a key as long as can be.
func TestCapacityFits(t *testing.T) {
	for _, p := range plans(t) {
		n := p.Capacity()
		checkFits(t, p, many(n, 64), many(n, p.Bytes), true)
		checkFits(t, p, many(n, 1), many(n, p.Bytes), true)
		checkFits(t, p, many(n, 64), many(n, p.Bytes/2+1), true)
	}
}

// TestPlansMadeByHand: nothing is promised of them but an end.
func TestPlansMadeByHand(t *testing.T) {
	for _, p := range madeByHand() {
		p.Capacity()
		for _, n := range []int{0, 1, 40} {
			p.Need(many(n, 64), many(n, 100))
			p.Fits(many(n, 1), many(n, 1))
		}
	}
}
