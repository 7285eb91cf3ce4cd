package nand_test

import (
	"math"
	"math/bits"
	"math/rand"
	"strings"
	"testing"
	"unsafe"

	"chert/api"
	"chert/nand"
)

func newChip(t *testing.T, blocks, pages, size int) *nand.Chip {
	t.Helper()
	c, err := nand.New(blocks, pages, size)
	if c == nil || err != api.OK {
		t.Fatalf("New(%d, %d, %d) is %v, %d", blocks, pages, size, c, err)
	}
	return c
}

func mustProgram(t *testing.T, c *nand.Chip, b, p int, data string) {
	t.Helper()
	if err := c.Program(b, p, data); err != api.OK {
		t.Fatalf("Program(%d, %d, %q) is %d", b, p, data, err)
	}
}

func mustErase(t *testing.T, c *nand.Chip, b int) {
	t.Helper()
	if err := c.Erase(b); err != api.OK {
		t.Fatalf("Erase(%d) is %d", b, err)
	}
}

func checkRead(t *testing.T, c *nand.Chip, b, p int, want string) {
	t.Helper()
	if got, err := c.Read(b, p); got != want || err != api.OK {
		t.Errorf("Read(%d, %d) is %x, %d, not %x", b, p, got, err, want)
	}
}

func checkCounts(t *testing.T, c *nand.Chip, b, erases, reads int) {
	t.Helper()
	if e, r := c.Counts(b); e != erases || r != reads {
		t.Errorf("Counts(%d) is %d, %d, not %d, %d", b, e, r, erases, reads)
	}
}

func checkErr(t *testing.T, what string, got, want api.Errno) {
	t.Helper()
	if got != want {
		t.Errorf("%s is %d, not %d", what, got, want)
	}
}

func TestPair(t *testing.T) {
	for p := range 64 {
		want, wantUpper := p+2, false
		if p%4 >= 2 {
			want, wantUpper = p-2, true
		}
		if got, upper := nand.Pair(p); got != want || upper != wantUpper {
			t.Errorf("Pair(%d) is %d, %v", p, got, upper)
		}
	}
	for _, c := range []struct {
		p, want int
		upper   bool
	}{
		{1, 3, false}, {6, 4, true}, {-1, 0, false}, {-2, 0, false}, {-4, 0, false}, {-5, 0, false}, {math.MinInt, 0, false},
		{math.MaxInt, math.MaxInt - 2, true}, {math.MaxInt - 1, math.MaxInt - 3, true}, {math.MaxInt - 2, math.MaxInt, false},
	} {
		if got, upper := nand.Pair(c.p); got != c.want || upper != c.upper {
			t.Errorf("Pair(%d) is %d, %v", c.p, got, upper)
		}
	}
}

func TestNewOfWrongNumbers(t *testing.T) {
	for _, c := range [][3]int{
		{0, 4, 1}, {-1, 4, 1}, {65, 4, 1}, {math.MinInt, 4, 1}, {math.MaxInt, 4, 1},
		{1, 0, 1}, {1, 3, 1}, {1, 5, 1}, {1, 6, 1}, {1, 63, 1}, {1, 65, 1}, {1, 68, 1}, {1, -4, 1}, {1, math.MinInt, 1}, {1, math.MaxInt, 1},
		{1, 4, 0}, {1, 4, -1}, {1, 4, 2049}, {1, 4, math.MinInt}, {1, 4, math.MaxInt},
		{0, 0, 0},
	} {
		if chip, err := nand.New(c[0], c[1], c[2]); chip != nil || err != api.ErrArg {
			t.Errorf("New(%v) is %v, %d", c, chip, err)
		}
	}
}

func TestNewChipIsBlank(t *testing.T) {
	for _, n := range [][3]int{{1, 4, 1}, {64, 64, 2048}, {3, 8, 5}, {2, 60, 2047}} {
		c := newChip(t, n[0], n[1], n[2])
		if c.Off() || c.Changes() != 0 {
			t.Errorf("%v: Off %v, Changes %d", n, c.Off(), c.Changes())
		}
		for b := range n[0] {
			checkCounts(t, c, b, 0, 0)
			checkRead(t, c, b, 0, strings.Repeat("\xff", n[2]))
			checkRead(t, c, b, n[1]-1, strings.Repeat("\xff", n[2]))
			checkCounts(t, c, b, 0, 2)
		}
		for range 20 { // no cut is pending
			mustErase(t, c, 0)
		}
	}
}

func TestIs(t *testing.T) {
	c := newChip(t, 3, 8, 5)
	if !c.Is(3, 8, 5) {
		t.Error("Is is false")
	}
	for _, n := range [][3]int{{2, 8, 5}, {4, 8, 5}, {3, 4, 5}, {3, 12, 5}, {3, 8, 4}, {3, 8, 6}, {0, 0, 0}, {8, 3, 5}, {-3, 8, 5}, {math.MaxInt, 8, 5}} {
		if c.Is(n[0], n[1], n[2]) {
			t.Errorf("Is(%v)", n)
		}
	}
}

// TestNoSuchPlace: whatever else applies, ErrArg comes first.
func TestNoSuchPlace(t *testing.T) {
	for _, off := range []bool{false, true} {
		c := newChip(t, 2, 4, 3)
		checkErr(t, "Wear", c.Wear(1), api.OK)
		if off {
			c.Cut(1, 0)
			c.Erase(0)
		}
		changes := c.Changes()
		for _, b := range []int{-1, 2, 64, math.MinInt, math.MaxInt} {
			checkErr(t, "Erase", c.Erase(b), api.ErrArg)
			checkErr(t, "Wear", c.Wear(b), api.ErrArg)
			checkErr(t, "Program", c.Program(b, 0, "abc"), api.ErrArg)
			checkErr(t, "Spoil", c.Spoil(b, 0), api.ErrArg)
			if data, err := c.Read(b, 0); data != "" || err != api.ErrArg {
				t.Errorf("Read(%d, 0) is %q, %d", b, data, err)
			}
			checkCounts(t, c, b, 0, 0)
		}
		for _, b := range []int{0, 1} {
			for _, p := range []int{-1, 4, 64, math.MinInt, math.MaxInt} {
				checkErr(t, "Program", c.Program(b, p, "abc"), api.ErrArg)
				checkErr(t, "Spoil", c.Spoil(b, p), api.ErrArg)
				if data, err := c.Read(b, p); data != "" || err != api.ErrArg {
					t.Errorf("Read(%d, %d) is %q, %d", b, p, data, err)
				}
			}
			for _, data := range []string{"", "ab", "abcd", strings.Repeat("x", 3000)} {
				checkErr(t, "Program", c.Program(b, 0, data), api.ErrArg)
			}
		}
		if c.Changes() != changes {
			t.Error("a rejected call was counted")
		}
	}
}

func TestProgramAndRead(t *testing.T) {
	c := newChip(t, 2, 8, 3)
	mustProgram(t, c, 1, 0, "abc")
	mustProgram(t, c, 1, 1, "\x00\x00\x00")
	mustProgram(t, c, 1, 4, "\xff\xff\xff") // pages are skipped
	for p, want := range []string{"abc", "\x00\x00\x00", "\xff\xff\xff", "\xff\xff\xff", "\xff\xff\xff", "\xff\xff\xff", "\xff\xff\xff", "\xff\xff\xff"} {
		checkRead(t, c, 1, p, want)
		checkRead(t, c, 0, p, "\xff\xff\xff")
	}
	for p := range 5 { // page 4 is written, though it looks erased
		checkErr(t, "Program of an earlier page", c.Program(1, p, "xyz"), api.ErrOrder)
	}
	if c.Changes() != 3 {
		t.Errorf("Changes is %d", c.Changes())
	}
	mustProgram(t, c, 1, 7, "end")
	checkErr(t, "Program of a full block", c.Program(1, 7, "xyz"), api.ErrOrder)
	checkRead(t, c, 1, 7, "end")
	mustProgram(t, c, 0, 2, "low")
	checkErr(t, "Program of page 1 behind page 2", c.Program(0, 1, "xyz"), api.ErrOrder)
	checkRead(t, c, 0, 1, "\xff\xff\xff")
}

func TestErase(t *testing.T) {
	c := newChip(t, 2, 4, 2)
	for p := range 4 {
		mustProgram(t, c, 0, p, "ab")
		mustProgram(t, c, 1, p, "cd")
	}
	c.Spoil(0, 2)
	checkRead(t, c, 0, 0, "ab")
	checkRead(t, c, 1, 0, "cd")
	mustErase(t, c, 0)
	checkCounts(t, c, 0, 1, 0)
	checkCounts(t, c, 1, 0, 1)
	for p := range 4 {
		checkRead(t, c, 0, p, "\xff\xff")
		checkRead(t, c, 1, p, "cd")
	}
	checkCounts(t, c, 0, 1, 4)
	mustErase(t, c, 0) // an erased block too
	checkCounts(t, c, 0, 2, 0)
	for p := range 4 {
		mustProgram(t, c, 0, p, "ef")
	}
	if c.Changes() != 14 {
		t.Errorf("Changes is %d", c.Changes())
	}
}

func TestSpoil(t *testing.T) {
	c := newChip(t, 1, 8, 2)
	mustProgram(t, c, 0, 0, "ab")
	mustProgram(t, c, 0, 2, "cd")
	for _, p := range []int{1, 2, 3, 2} { // only the written one is lost
		checkErr(t, "Spoil", c.Spoil(0, p), api.OK)
	}
	for p, want := range []string{"ab", "\xff\xff", "\x00\x00", "\xff\xff"} {
		checkRead(t, c, 0, p, want)
	}
	checkErr(t, "Program of a spoilt page", c.Program(0, 2, "xy"), api.ErrOrder)
	mustProgram(t, c, 0, 3, "ef")
	if c.Changes() != 3 {
		t.Error("Spoil was counted as a change")
	}
	mustErase(t, c, 0)
	checkErr(t, "Spoil of an erased page", c.Spoil(0, 5), api.OK)
	checkRead(t, c, 0, 5, "\xff\xff")
	mustProgram(t, c, 0, 2, "gh")
	mustProgram(t, c, 0, 5, "ij")
}

// TestSpoilOfWhatCannotBeWritten: Spoil asks neither for power nor for a block that is not worn.
func TestSpoilOfWhatCannotBeWritten(t *testing.T) {
	c := newChip(t, 2, 4, 2)
	mustProgram(t, c, 0, 0, "ab")
	mustProgram(t, c, 1, 0, "cd")
	c.Wear(0)
	checkErr(t, "Spoil of a worn block", c.Spoil(0, 0), api.OK)
	checkRead(t, c, 0, 0, "\x00\x00")
	c.Cut(1, 0)
	c.Erase(1)
	checkErr(t, "Spoil without power", c.Spoil(1, 0), api.OK)
	c.On()
	checkRead(t, c, 1, 0, "\x00\x00")
}

func TestWear(t *testing.T) {
	c := newChip(t, 2, 4, 2)
	mustProgram(t, c, 0, 0, "ab")
	checkErr(t, "Wear", c.Wear(0), api.OK)
	checkErr(t, "Wear again", c.Wear(0), api.OK)
	checkErr(t, "Erase of a worn block", c.Erase(0), api.ErrWorn)
	checkErr(t, "Program of a worn block", c.Program(0, 1, "xy"), api.ErrWorn)
	checkErr(t, "Program of a written page of a worn block", c.Program(0, 0, "xy"), api.ErrWorn)
	checkRead(t, c, 0, 0, "ab")
	checkCounts(t, c, 0, 0, 1)
	if c.Changes() != 1 {
		t.Errorf("Changes is %d", c.Changes())
	}
	mustProgram(t, c, 1, 0, "cd")
	mustErase(t, c, 1)
	c.Cut(1, 0)
	checkErr(t, "Erase of a worn block", c.Erase(0), api.ErrWorn) // it is no change, so it does not use up the cut
	checkErr(t, "the torn Erase", c.Erase(1), api.ErrPower)
	c.On()
	checkErr(t, "Erase of a worn block after On", c.Erase(0), api.ErrWorn)
	c.Cut(1, 0)
	checkErr(t, "Program out of order", c.Program(1, 3, "ab"), api.ErrPower)
	checkErr(t, "Erase of a worn block without power", c.Erase(0), api.ErrPower)
	checkErr(t, "Wear without power", c.Wear(1), api.OK)
	c.On()
	checkErr(t, "Erase of block 1", c.Erase(1), api.ErrWorn)
}

func TestReadsAreCounted(t *testing.T) {
	c := newChip(t, 2, 4, 1)
	for n := range 5 {
		c.Read(1, n%4)
		checkCounts(t, c, 0, 0, 0)
		checkCounts(t, c, 1, 0, n+1)
	}
	c.Wear(1)
	c.Read(1, 0)
	checkCounts(t, c, 1, 0, 6)
	c.Read(1, 4)
	c.Read(1, -1)
	c.Program(0, 0, "a")
	c.Spoil(1, 0)
	c.Noise(1, 2, 3)
	checkCounts(t, c, 1, 0, 6)
	c.Cut(1, 0)
	c.Program(0, 1, "a")
	if data, err := c.Read(1, 0); data != "" || err != api.ErrPower {
		t.Errorf("Read without power is %q, %d", data, err)
	}
	checkCounts(t, c, 1, 0, 6)
}

func TestCutCountsChanges(t *testing.T) {
	for _, c := range []struct{ n, changes int }{{1, 1}, {2, 2}, {9, 9}, {0, 1}, {-1, 1}, {math.MinInt, 1}} {
		chip := newChip(t, 1, 4, 1)
		mustErase(t, chip, 0)
		chip.Cut(c.n, 6)
		for i := 1; i < c.changes; i++ {
			chip.Read(0, 0)
			checkErr(t, "a rejected Program", chip.Program(0, 0, ""), api.ErrArg)
			mustErase(t, chip, 0)
			if chip.Off() {
				t.Fatalf("Cut(%d): off after %d", c.n, i)
			}
		}
		checkErr(t, "the torn Erase", chip.Erase(0), api.ErrPower)
		if !chip.Off() || chip.Changes() != c.changes+1 {
			t.Errorf("Cut(%d): Off %v, Changes %d", c.n, chip.Off(), chip.Changes())
		}
		checkCounts(t, chip, 0, c.changes+1, 0)
	}
	chip := newChip(t, 1, 4, 1)
	chip.Cut(math.MaxInt, 0)
	for range 50 {
		mustErase(t, chip, 0)
	}
}

func TestALaterCutReplacesAnEarlier(t *testing.T) {
	c := newChip(t, 1, 8, 1)
	c.Cut(1, 0)
	c.Cut(3, 5) // a Program is then written as a whole
	mustErase(t, c, 0)
	mustProgram(t, c, 0, 0, "a")
	checkErr(t, "the third change", c.Program(0, 1, "b"), api.ErrPower)
	c.On()
	checkRead(t, c, 0, 1, "b")
	mustErase(t, c, 0)
	c.Cut(2, 0)
	mustErase(t, c, 0)
	c.Cut(2, 0) // from now on
	mustErase(t, c, 0)
	checkErr(t, "the second change", c.Erase(0), api.ErrPower)
}

func TestWithoutPower(t *testing.T) {
	c := newChip(t, 2, 4, 1)
	mustProgram(t, c, 0, 0, "a")
	mustProgram(t, c, 0, 1, "b")
	c.Cut(1, 0)
	checkErr(t, "the torn Program", c.Program(1, 0, "c"), api.ErrPower)
	changes := c.Changes()
	checkErr(t, "Erase", c.Erase(0), api.ErrPower)
	checkErr(t, "Program", c.Program(0, 2, "c"), api.ErrPower)
	checkErr(t, "Program out of order", c.Program(0, 0, "c"), api.ErrPower)
	if data, err := c.Read(0, 0); data != "" || err != api.ErrPower {
		t.Errorf("Read is %q, %d", data, err)
	}
	if c.Changes() != changes || !c.Off() || !c.Is(2, 4, 1) {
		t.Errorf("Changes %d, Off %v", c.Changes(), c.Off())
	}
	checkCounts(t, c, 0, 0, 0)
	c.Cut(1, 0) // forgotten by On
	c.On()
	if c.Off() {
		t.Error("off after On")
	}
	checkRead(t, c, 0, 0, "a")
	mustProgram(t, c, 0, 2, "c")
	c.Cut(1, 0)
	c.On() // though the power was on
	mustErase(t, c, 0)
	if c.Off() {
		t.Error("a cut was pending after On")
	}
}

// modesLike: all modes that are treated as m.
func modesLike(m int) []int {
	return []int{m, m + 8, m + 800, -m - 1, -m - 9, -m - 1 - 8000, math.MaxInt - 7 + m, math.MinInt + 7 - m}
}

func TestTornErase(t *testing.T) {
	for m := range 8 {
		for _, mode := range modesLike(m) {
			c := newChip(t, 2, 8, 2)
			mustProgram(t, c, 0, 0, "ab")
			mustProgram(t, c, 0, 1, "cd")
			c.Spoil(0, 1)
			mustProgram(t, c, 0, 3, "ef")
			mustProgram(t, c, 1, 0, "gh")
			c.Read(0, 0)
			c.Cut(1, mode)
			checkErr(t, "the torn Erase", c.Erase(0), api.ErrPower)
			checkCounts(t, c, 0, 1, 0)
			c.On()
			want := []string{"ab", "\x00\x00", "\xff\xff", "ef", "\xff\xff"}
			if m >= 3 {
				want[0], want[3] = "\x00\x00", "\x00\x00"
			}
			if m >= 6 {
				want = []string{"\xff\xff", "\xff\xff", "\xff\xff", "\xff\xff", "\xff\xff"}
			}
			for p, data := range want {
				checkRead(t, c, 0, p, data)
			}
			checkRead(t, c, 1, 0, "gh")
			if err := c.Program(0, 0, "xy"); (err == api.OK) != (m >= 6) || m < 6 && err != api.ErrOrder {
				t.Errorf("mode %d: Program of page 0 is %d", mode, err)
			}
			if err := c.Program(0, 4, "xy"); err != api.OK {
				t.Errorf("mode %d: Program of page 4 is %d", mode, err)
			}
		}
	}
}

func TestTornProgram(t *testing.T) {
	for m := range 8 {
		for _, mode := range modesLike(m) {
			for p := range 8 {
				c := newChip(t, 2, 8, 2)
				for before := range p {
					mustProgram(t, c, 0, before, "ab")
				}
				mustProgram(t, c, 1, 0, "gh")
				c.Cut(1, mode)
				checkErr(t, "the torn Program", c.Program(0, p, "cd"), api.ErrPower)
				checkCounts(t, c, 0, 0, 0)
				c.On()
				for before := range p {
					want := "ab"
					if m >= 4 && p%4 >= 2 && before == p-2 {
						want = "\x00\x00"
					}
					checkRead(t, c, 0, before, want)
				}
				checkRead(t, c, 0, p, []string{"\xff\xff", "\x00\x00", "cd"}[m%3])
				checkRead(t, c, 1, 0, "gh")
				checkErr(t, "Program of the torn page", c.Program(0, p, "xy"), api.ErrOrder)
				if p < 7 {
					checkRead(t, c, 0, p+1, "\xff\xff")
					mustProgram(t, c, 0, p+1, "xy")
				}
			}
		}
	}
}

// TestTornUpperOverErased: a lower page that was not written stays erased.
func TestTornUpperOverErased(t *testing.T) {
	for m := range 8 {
		c := newChip(t, 1, 8, 1)
		c.Cut(1, m)
		checkErr(t, "the torn Program", c.Program(0, 6, "a"), api.ErrPower)
		c.On()
		for p := range 6 {
			checkRead(t, c, 0, p, "\xff")
			checkErr(t, "Program below the torn page", c.Program(0, p, "x"), api.ErrOrder)
		}
		mustProgram(t, c, 0, 7, "x")
	}
}

// TestMarkOfATornProgram: only an Erase that was executed takes it.
func TestMarkOfATornProgram(t *testing.T) {
	for m := range 9 {
		c := newChip(t, 1, 8, 1)
		c.Cut(1, 0)
		checkErr(t, "the torn Program", c.Program(0, 3, "a"), api.ErrPower)
		c.On()
		checkErr(t, "Spoil", c.Spoil(0, 3), api.OK) // it is not written
		checkRead(t, c, 0, 3, "\xff")
		if m < 8 {
			c.Cut(1, m)
			checkErr(t, "the torn Erase", c.Erase(0), api.ErrPower)
			c.On()
		} else {
			mustErase(t, c, 0)
		}
		checkCounts(t, c, 0, 1, 0)
		checkRead(t, c, 0, 3, "\xff")
		want := api.ErrOrder
		if m >= 6 {
			want = api.OK
		}
		checkErr(t, "Program of the page that was torn", c.Program(0, 3, "b"), want)
		mustProgram(t, c, 0, 4, "c")
		checkErr(t, "Program of an earlier page", c.Program(0, 2, "b"), api.ErrOrder)
	}
}

func TestChapterExample(t *testing.T) {
	c := newChip(t, 1, 4, 1)
	mustProgram(t, c, 0, 0, "a")
	c.Cut(1, 4)
	checkErr(t, "the torn Program", c.Program(0, 2, "b"), api.ErrPower)
	c.On()
	checkRead(t, c, 0, 0, "\x00")
	checkRead(t, c, 0, 2, "\x00")
}

// TestNoiseOfKnownNumbers: the bits were worked out of the chapter's words apart from this program.
func TestNoiseOfKnownNumbers(t *testing.T) {
	for _, n := range []struct {
		seed, most, piece, reads, b, p int
		want                           string
	}{
		{1, 2, 8, 1, 0, 0, "\x00\x00\x00\x00\x00\x00\x00\x04\x00\x01\x00\x00\x00\x00\x80\x00"},
		{1, 2, 8, 2, 0, 0, "\x00\x00\x20\x00\x00\x00\x00\x01\x00\x01\x00\x00\x00\x00\x00\x00"},
		{0, 1, 16, 1, 2, 3, "\x00\x00\x00\x00\x00\x10\x00\x00\x00\x00\x00\x00\x00\x00\x00\x00"},
		{-5, 3, 5, 3, 1, 6, "\x00\x08\x00\x00\x02\x00\x10\x00\x06\x00\x00\x02\x80\x00\x00\x01"},
		{math.MinInt, 64, 3, 7, 3, 7, "\x9a\x49\xe3\xc1\xc9\x30\x47\x08\x44\x5d\xf0\x01\x38\x63\x9e\xd9"},
		{math.MaxInt, 9, 1, 2, 2, 1, "\x07\x17\x86\x0e\x04\xb8\x01\x21\x0c\x37\x03\x40\xcc\x42\x51\x8a"},
		{77, 4, 100, 5, 3, 5, "\x00\x00\x02\x00\x00\x00\x00\x00\x00\x00\x00\x00\x00\x00\x00\x00"},
	} {
		c := newChip(t, 4, 8, 16)
		mustProgram(t, c, n.b, n.p, strings.Repeat("\x00", 16))
		for range n.reads - 1 {
			c.Read(n.b, 0)
		}
		c.Noise(n.seed, n.most, n.piece)
		checkRead(t, c, n.b, n.p, n.want)
	}
}

// slowNoise: data as it is read, by the chapter's words.
func slowNoise(data string, seed, most, piece, reads, b, p int) string {
	list := []byte(data)
	if most < 1 || piece < 1 {
		return data
	}
	if most > 64 {
		most = 64
	}
	if piece > len(data) {
		piece = len(data)
	}
	for first := 0; first < len(data); first += piece {
		size := min(piece, len(data)-first)
		a := uint64(reads) * 0x9E3779B97F4A7C15
		b := uint64(b) * 0xC2B2AE3D27D4EB4F
		c := uint64(p) * 0x165667B19E3779F9
		d := uint64(first/piece) * 0x27D4EB2F165667C5
		h := uint64(seed) ^ a ^ b ^ c ^ d
		k := (h>>33)%uint64(most) + 1
		for ; k > 0; k-- {
			h = h*6364136223846793005 + 1442695040888963407
			bit := int((h >> 33) % uint64(8*size))
			list[first+bit/8] ^= byte(1) << uint(bit%8)
		}
	}
	return string(list)
}

func TestNoise(t *testing.T) {
	random := rand.New(rand.NewSource(1))
	shown := []string{strings.Repeat("\xff", 21), strings.Repeat("\x00", 21), "a text of 21 bytes :)"}
	for _, most := range []int{math.MinInt, -1, 0, 1, 2, 3, 8, 63, 64, 65, 66, 1000, math.MaxInt} {
		for _, piece := range []int{math.MinInt, -1, 0, 1, 2, 7, 20, 21, 22, 2048, math.MaxInt} {
			c := newChip(t, 3, 64, 21)
			mustProgram(t, c, 2, 1, shown[2])
			mustProgram(t, c, 2, 62, shown[2])
			c.Spoil(2, 1)
			for reads := 1; reads <= 9; reads++ {
				seed := int(random.Uint64())
				c.Noise(seed, most, piece)
				p := []int{0, 1, 62}[reads%3]
				got, err := c.Read(2, p)
				clean := shown[reads%3]
				if want := slowNoise(clean, seed, most, piece, reads, 2, p); got != want || err != api.OK {
					t.Fatalf("Noise(%d, %d, %d), read %d of page %d: %x, %d, not %x", seed, most, piece, reads, p, got, err, want)
				}
			}
		}
	}
}

// TestNoiseIsBounded: however often a page is read, no piece has more bits turned than were asked for.
func TestNoiseIsBounded(t *testing.T) {
	c := newChip(t, 1, 4, 50)
	clean := strings.Repeat("\x5a", 50)
	mustProgram(t, c, 0, 0, clean)
	for _, most := range []int{1, 2, 5, 64} {
		c.Noise(7, most, 12)
		top, turned := 0, make([]int, 8*50)
		for range 3000 {
			data, _ := c.Read(0, 0)
			for first := 0; first < 50; first += 12 {
				n := 0
				for i := first; i < min(first+12, 50); i++ {
					n += bits.OnesCount8(data[i] ^ clean[i])
					for bit := range 8 {
						turned[8*i+bit] += int((data[i] ^ clean[i]) >> bit & 1)
					}
				}
				if n > most {
					t.Fatalf("%d bits of a piece", n)
				}
				top = max(top, n)
			}
		}
		if top < min(most, 30) {
			t.Errorf("Noise of at most %d turned at most %d", most, top)
		}
		for bit, n := range turned {
			if n == 0 {
				t.Errorf("Noise of at most %d never turned bit %d", most, bit)
			}
		}
	}
}

// TestNoiseStaysTillTheNext: neither a change nor the power ends it, and what is stored does not change.
func TestNoiseStaysTillTheNext(t *testing.T) {
	c := newChip(t, 1, 4, 8)
	mustProgram(t, c, 0, 0, "abcdefgh")
	c.Noise(3, 2, 4)
	checkRead(t, c, 0, 0, slowNoise("abcdefgh", 3, 2, 4, 1, 0, 0))
	mustErase(t, c, 0)
	c.Cut(1, 2)
	c.Program(0, 0, "ijklmnop")
	c.On()
	checkRead(t, c, 0, 0, slowNoise("ijklmnop", 3, 2, 4, 1, 0, 0))
	c.Noise(4, 3, 5)
	checkRead(t, c, 0, 0, slowNoise("ijklmnop", 4, 3, 5, 2, 0, 0))
	c.Noise(4, 0, 5)
	checkRead(t, c, 0, 0, "ijklmnop")
	c.Noise(4, 3, 5)
	c.Noise(4, 3, 0)
	checkRead(t, c, 0, 0, "ijklmnop")
}

func TestNilChip(t *testing.T) {
	var c *nand.Chip
	c.Noise(1, 2, 3)
	c.Cut(1, 2)
	c.On()
	checkErr(t, "Erase", c.Erase(0), api.ErrArg)
	checkErr(t, "Program", c.Program(0, 0, ""), api.ErrArg)
	checkErr(t, "Spoil", c.Spoil(0, 0), api.ErrArg)
	checkErr(t, "Wear", c.Wear(0), api.ErrArg)
	if data, err := c.Read(0, 0); data != "" || err != api.ErrArg {
		t.Errorf("Read is %q, %d", data, err)
	}
	checkCounts(t, c, 0, 0, 0)
	if c.Is(0, 0, 0) || c.Off() || c.Changes() != 0 {
		t.Error("Is, Off or Changes")
	}
}

// TestResultsAreNew: the chip keeps no text that is passed to it, and hands out none that it keeps.
func TestResultsAreNew(t *testing.T) {
	c := newChip(t, 1, 4, 32)
	data := strings.Repeat("chert", 7)[:32]
	mustProgram(t, c, 0, 0, data)
	first, _ := c.Read(0, 0)
	second, _ := c.Read(0, 0)
	a, b := unsafe.StringData(first), unsafe.StringData(second)
	if given := unsafe.StringData(data); a == given || b == given || a == b {
		t.Error("a result shares memory")
	}
}
