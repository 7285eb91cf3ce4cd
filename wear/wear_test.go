package wear_test

import (
	"math"
	"math/rand"
	"slices"
	"testing"

	"chert/wear"
)

// The four kinds of a block: may it be used, does it hold something, can it not be written.
func free(erases int) wear.Block     { return wear.Block{Erases: erases} }
func used(erases int) wear.Block     { return wear.Block{Erases: erases, Used: true} }
func worn(erases int) wear.Block     { return wear.Block{Erases: erases, Worn: true} }
func usedWorn(erases int) wear.Block { return wear.Block{Erases: erases, Used: true, Worn: true} }

// read: a used block that was read so often.
func read(reads int) wear.Block { return wear.Block{Reads: reads, Used: true} }

func checkIndices(t *testing.T, what string, got, want []int) {
	t.Helper()
	if !slices.Equal(got, want) {
		t.Errorf("%s: %v, not %v", what, got, want)
	}
}

func anyBlocks(random *rand.Rand) []wear.Block {
	blocks := make([]wear.Block, random.Intn(9))
	for i := range blocks {
		blocks[i] = wear.Block{Erases: random.Intn(6), Reads: random.Intn(6), Used: random.Intn(2) == 0, Worn: random.Intn(4) == 0}
	}
	return blocks
}

func TestPick(t *testing.T) {
	for _, c := range []struct {
		blocks []wear.Block
		want   int
	}{
		{nil, -1},
		{[]wear.Block{}, -1},
		{[]wear.Block{free(3), used(1), free(2), free(9)}, 2},
		{[]wear.Block{free(0)}, 0},
		{[]wear.Block{used(0)}, -1},
		{[]wear.Block{worn(0)}, -1},
		{[]wear.Block{usedWorn(0)}, -1},
		{[]wear.Block{used(0), worn(0), usedWorn(0)}, -1},
		{[]wear.Block{used(0), worn(0), usedWorn(0), free(8)}, 3},
		{[]wear.Block{free(4), free(2), free(2), free(3)}, 1},
		{[]wear.Block{free(2), free(2)}, 0},
		{[]wear.Block{free(2), free(1)}, 1},
		{[]wear.Block{free(math.MaxInt), worn(1)}, 0},
		{[]wear.Block{free(0), free(math.MinInt)}, 1},
		{[]wear.Block{{Erases: 1, Reads: 0}, {Erases: 0, Reads: 99}}, 1}, // reads are no matter
	} {
		if got := wear.Pick(c.blocks); got != c.want {
			t.Errorf("Pick(%v) is %d, not %d", c.blocks, got, c.want)
		}
	}
}

func TestSpare(t *testing.T) {
	for _, c := range []struct {
		blocks []wear.Block
		want   int
	}{
		{nil, 0},
		{[]wear.Block{}, 0},
		{[]wear.Block{free(3), used(1), free(2), free(9)}, 3},
		{[]wear.Block{used(0), worn(0), usedWorn(0)}, 0},
		{[]wear.Block{free(7)}, 1},
		{[]wear.Block{free(1), worn(1), free(1), usedWorn(2), free(1), used(3)}, 3},
		{make([]wear.Block, 64), 64},
	} {
		if got := wear.Spare(c.blocks); got != c.want {
			t.Errorf("Spare(%v) is %d, not %d", c.blocks, got, c.want)
		}
	}
}

func TestLevel(t *testing.T) {
	example := []wear.Block{free(3), used(1), free(2), free(9)}
	for _, c := range []struct {
		blocks []wear.Block
		apart  int
		want   int
	}{
		{nil, 0, -1},
		{[]wear.Block{}, -1, -1},
		{example, 5, 1},
		{example, 7, 1},
		{example, 8, -1}, // just so far apart
		{example, 9, -1},
		{example, 0, 1},
		{example, -1, 1},
		{example, math.MinInt, 1},
		{example, math.MaxInt, -1},
		{[]wear.Block{free(9), worn(0)}, 0, -1},     // none is used
		{[]wear.Block{free(9), usedWorn(0)}, 0, -1}, // none that is used can be written
		{[]wear.Block{used(4), worn(9)}, 0, -1},     // the greatest is worn
		{[]wear.Block{used(4), usedWorn(9)}, 0, -1}, // and used as well
		{[]wear.Block{used(4), used(9)}, 4, 0},      // the greatest may be used
		{[]wear.Block{used(4), used(9)}, 5, -1},
		{[]wear.Block{used(4)}, 0, -1}, // it is the greatest itself
		{[]wear.Block{used(4), used(4)}, 0, -1},
		{[]wear.Block{used(4), used(4)}, -5, -1},                 // treated as 0
		{[]wear.Block{used(4), free(3)}, -5, -1},                 // the greatest is the used one
		{[]wear.Block{used(5), used(4), used(4), free(6)}, 1, 1}, // the first of several
		{[]wear.Block{free(4), usedWorn(4), worn(4), used(4), free(6)}, 1, 3},
		{[]wear.Block{usedWorn(1), used(4), free(6)}, 2, -1}, // the least is that of those that can be written
		{[]wear.Block{free(1), used(4), free(6)}, 2, -1},     // and are used
		{[]wear.Block{free(6), used(4)}, 1, 1},
	} {
		if got := wear.Level(c.blocks, c.apart); got != c.want {
			t.Errorf("Level(%v, %d) is %d, not %d", c.blocks, c.apart, got, c.want)
		}
	}
}

func TestLevelOfGreatNumbers(t *testing.T) {
	for _, c := range []struct {
		least, greatest int
		apart           int
		want            int
	}{
		{1, math.MaxInt, math.MaxInt, -1}, // the sum is too large
		{1, math.MaxInt, math.MaxInt - 1, -1},
		{1, math.MaxInt, math.MaxInt - 2, 0},
		{0, math.MaxInt, math.MaxInt, -1},
		{0, math.MaxInt, math.MaxInt - 1, 0},
		{2, math.MaxInt, math.MaxInt - 1, -1},
		{math.MaxInt, math.MaxInt, math.MaxInt, -1},
		{math.MaxInt - 1, math.MaxInt, 0, 0},
		{math.MaxInt - 1, math.MaxInt, 1, -1},
		{math.MaxInt - 1, math.MaxInt, 2, -1},
		{math.MinInt, math.MaxInt, math.MaxInt, 0}, // their difference is no int
		{-1, math.MaxInt, math.MaxInt, 0},
		{math.MinInt, -1, math.MaxInt, -1},
		{math.MinInt, 0, math.MaxInt, 0},
	} {
		for _, other := range []wear.Block{free(c.greatest), used(c.greatest)} {
			if got := wear.Level([]wear.Block{used(c.least), other}, c.apart); got != c.want {
				t.Errorf("Level of %d and %d, %d apart is %d, not %d", c.least, c.greatest, c.apart, got, c.want)
			}
		}
	}
}

func TestScrub(t *testing.T) {
	for _, c := range []struct {
		blocks []wear.Block
		most   int
		want   []int
	}{
		{nil, 0, nil},
		{[]wear.Block{}, -1, nil},
		{[]wear.Block{read(3), read(5), read(4)}, 3, []int{1, 2}},
		{[]wear.Block{read(3), read(5), read(4)}, 2, []int{1, 2, 0}},
		{[]wear.Block{read(3), read(5), read(4)}, 5, nil}, // just so often
		{[]wear.Block{read(3), read(5), read(4)}, 4, []int{1}},
		{[]wear.Block{read(7), read(8), read(7), read(8), read(7)}, 0, []int{1, 3, 0, 2, 4}},
		{[]wear.Block{{Reads: 9}, read(5), {Reads: 9, Worn: true}}, 0, []int{1}}, // not used
		{[]wear.Block{{Reads: 9, Used: true, Worn: true}, read(5)}, 0, []int{0, 1}},
		{[]wear.Block{read(0)}, 0, nil},
		{[]wear.Block{read(0), {}}, -1, []int{0}},
		{[]wear.Block{read(0)}, math.MinInt, []int{0}},
		{[]wear.Block{read(math.MaxInt)}, math.MaxInt, nil},
		{[]wear.Block{read(math.MinInt), read(0)}, math.MinInt, []int{1}},
		{[]wear.Block{read(-2), read(math.MaxInt), read(0)}, math.MinInt, []int{1, 2, 0}}, // their difference is no int
		{[]wear.Block{read(math.MaxInt), read(math.MinInt + 1), read(0)}, math.MinInt, []int{0, 2, 1}},
	} {
		checkIndices(t, "Scrub", wear.Scrub(c.blocks, c.most), c.want)
	}
}

// TestScrubOfMany: equal ones stay in their order, however many there are.
func TestScrubOfMany(t *testing.T) {
	blocks := make([]wear.Block, 64)
	var want []int
	for i := range blocks {
		blocks[i] = read(1 + i%3)
	}
	for _, rest := range []int{2, 1, 0} {
		for i := rest; i < 64; i += 3 {
			want = append(want, i)
		}
	}
	checkIndices(t, "Scrub", wear.Scrub(blocks, 0), want)
}

// slowPick, slowLevel and slowScrub go by the chapter's words.
func slowPick(blocks []wear.Block) int {
	for erases := range 6 {
		for i, b := range blocks {
			if !b.Used && !b.Worn && b.Erases == erases {
				return i
			}
		}
	}
	return -1
}

func slowLevel(blocks []wear.Block, apart int) int {
	a, b := 6, -1
	for _, x := range blocks {
		if x.Used && !x.Worn {
			a = min(a, x.Erases)
		}
		if !x.Worn {
			b = max(b, x.Erases)
		}
	}
	for i, x := range blocks {
		if x.Used && !x.Worn && x.Erases == a && b > a+max(apart, 0) {
			return i
		}
	}
	return -1
}

func slowScrub(blocks []wear.Block, most int) []int {
	var indices []int
	for reads := 5; reads > most && reads >= 0; reads-- {
		for i, b := range blocks {
			if b.Used && b.Reads == reads {
				indices = append(indices, i)
			}
		}
	}
	return indices
}

func TestOfAnyBlocks(t *testing.T) {
	random := rand.New(rand.NewSource(1))
	for range 20000 {
		blocks := anyBlocks(random)
		bound := random.Intn(9) - 2
		if got, want := wear.Pick(blocks), slowPick(blocks); got != want {
			t.Fatalf("Pick(%v) is %d, not %d", blocks, got, want)
		}
		if got, want := wear.Level(blocks, bound), slowLevel(blocks, bound); got != want {
			t.Fatalf("Level(%v, %d) is %d, not %d", blocks, bound, got, want)
		}
		if got, want := wear.Scrub(blocks, bound), slowScrub(blocks, bound); !slices.Equal(got, want) {
			t.Fatalf("Scrub(%v, %d) is %v, not %v", blocks, bound, got, want)
		}
		spare := 0
		for _, b := range blocks {
			if !b.Used && !b.Worn {
				spare++
			}
		}
		if got := wear.Spare(blocks); got != spare {
			t.Fatalf("Spare(%v) is %d, not %d", blocks, got, spare)
		}
	}
}

// TestListsStay: what is handed in, and what is behind it.
func TestListsStay(t *testing.T) {
	random := rand.New(rand.NewSource(2))
	for range 200 {
		blocks := anyBlocks(random)
		before := slices.Clone(blocks)
		part := blocks[:len(blocks)/2]
		wear.Pick(part)
		wear.Level(part, 1)
		wear.Scrub(part, 1)
		wear.Spare(part)
		if !slices.Equal(blocks, before) {
			t.Fatalf("the list is %v, not %v", blocks, before)
		}
	}
}

func TestAnswersAreNew(t *testing.T) {
	blocks := []wear.Block{read(3), read(5), read(4)}
	first := wear.Scrub(blocks, 0)
	for i := range first {
		first[i] = -7
	}
	checkIndices(t, "Scrub again", wear.Scrub(blocks, 0), []int{1, 2, 0})
}
