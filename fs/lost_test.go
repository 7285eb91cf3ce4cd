package fs_test

import (
	"math/rand"
	"slices"
	"strings"
	"testing"

	"chert/api"
	"chert/fs"
	"chert/nand"
	"chert/page"
	"chert/parity"
)

// loseOneOfEachGroup spoils a page of each group of each closed block, unless one is lost already.
func loseOneOfEachGroup(t *testing.T, random *rand.Rand, c *nand.Chip, g api.Geometry) {
	t.Helper()
	pager, err := page.New(c, g)
	check(t, "New", err, api.OK)
	state := func(b, p int) int {
		found, err := pager.Read(b, p)
		check(t, "Read", err, api.OK)
		return found.State
	}
	for b := range g.Blocks {
		found, _ := pager.Read(b, 0)
		if found.State != page.Good || found.Payload[0] != 'L' {
			continue
		}
		plan, _ := parity.Of(g.Pages, found.Payload[17]%2 == 1)
		if state(b, plan.Parity[len(plan.Parity)-1]) == page.Empty {
			continue
		}
		for group, sum := range plan.Parity {
			pages := append(plan.Members(group), sum)
			if !slices.ContainsFunc(pages, func(p int) bool { return state(b, p) == page.Bad }) {
				c.Spoil(b, pages[random.Intn(len(pages))])
			}
		}
	}
}

// TestLostPages: one of each group is no loss, with turned bits too, in what is mounted and for a Mount.
func TestLostPages(t *testing.T) {
	for seed, g := range geometries {
		random := rand.New(rand.NewSource(int64(seed)))
		f, c := formatted(t, g)
		c.Noise(seed, g.T, g.Chunk+bytesOfParity(t, g))
		m, plan := newModel(), planOf(t, g)
		for i := range 400 {
			m = m.checkCall(t, plan, f, anyCall(random, m))
			if i%20 == 0 {
				loseOneOfEachGroup(t, random, c, g)
				checkShown(t, f, m)
			}
			if i%50 == 0 {
				ok(t, f.Unmount())
				loseOneOfEachGroup(t, random, c, g)
				f, m = mounted(t, c, g), m.remounted(t)
			}
		}
		checkShown(t, f, m)
	}
}

// loseAll spoils all that is written.
func loseAll(c *nand.Chip, g api.Geometry) {
	for b := range g.Blocks {
		for p := range g.Pages {
			c.Spoil(b, p)
		}
	}
}

// twoFiles: a file system with a file in which only its second piece is not 00, and an empty one.
func twoFiles(t *testing.T) (*fs.FS, *nand.Chip) {
	t.Helper()
	f, c := formatted(t, usual)
	ok(t, f.Create("/f"), f.Write("/f", 70, "abc"), f.Truncate("/f", 300), f.Create("/e"))
	return f, c
}

// TestLostPieces: what needs them tells so, and nothing else does.
func TestLostPieces(t *testing.T) {
	for _, where := range []string{"in a generation", "in the journal"} {
		f, c := twoFiles(t)
		ok(t, f.Sync())
		if where == "in a generation" {
			ok(t, f.Unmount())
			f = mounted(t, c, usual)
		}
		loseAll(c, usual)
		checkRead(t, f, "/f", 0, 300, "", api.ErrIO)
		checkRead(t, f, "/f", 127, 1, "", api.ErrIO)
		checkRead(t, f, "/f", 128, 300, strings.Repeat("\x00", 172), api.OK)
		checkRead(t, f, "/f", 0, 64, strings.Repeat("\x00", 64), api.OK)
		checkRead(t, f, "/f", 64, 0, "", api.OK)
		checkRead(t, f, "/f", 300, 9, "", api.OK)
		checkRead(t, f, "/e", 0, 9, "", api.OK)
		check(t, "Write", f.Write("/f", 70, "abc"), api.ErrIO)
		check(t, "Write", f.Write("/f", 60, "abcdefgh"), api.ErrIO)
		check(t, "Write", f.Write("/f", 8190, "abc"), api.ErrBig)
		check(t, "Truncate", f.Truncate("/f", 127), api.ErrIO)
		check(t, "Truncate", f.Truncate("/f", -1), api.ErrInvalid)
		checkNames(t, f, "/", "e", "f")
		check(t, "Unmount", f.Unmount(), api.ErrIO)
		checkNames(t, f, "/", "e", "f")
		ok(t, f.Sync())
		ok(t, f.Write("/f", 128, "x"), f.Write("/f", 0, "y"), f.Truncate("/f", 200), f.Truncate("/f", 400), f.Link("/f", "/g"), f.Sync())
		check(t, "Unmount", f.Unmount(), api.ErrIO)
		ok(t, f.Truncate("/f", 64))
		checkRead(t, f, "/f", 0, 99, "y"+strings.Repeat("\x00", 63), api.OK)
		ok(t, f.Unmount())
		checkRead(t, mounted(t, c, usual), "/f", 0, 99, "y"+strings.Repeat("\x00", 63), api.OK)
	}
}

// TestLostPiecesWhenTheJournalIsFull: the call that finds it full tells it.
func TestLostPiecesWhenTheJournalIsFull(t *testing.T) {
	f, c := twoFiles(t)
	ok(t, f.Unmount())
	f = mounted(t, c, usual)
	loseAll(c, usual)
	for i := range 100 {
		before := shownNames(t, f)
		err := f.Create("/" + strings.Repeat("x", 1+i%30) + string(rune('a'+i/30)))
		if err == api.OK {
			ok(t, f.Sync())
			continue
		}
		check(t, "Create", err, api.ErrIO)
		if i < 9 || shownNames(t, f) != before {
			t.Fatalf("Create %d fails, and %s is there", i, shownNames(t, f))
		}
		ok(t, f.Sync(), f.Unlink("/f"), f.Create("/later"), f.Unmount())
		mounted(t, c, usual)
		return
	}
	t.Fatal("the journal is never full")
}

func shownNames(t *testing.T, f *fs.FS) string {
	t.Helper()
	names, err := f.Readdir("/")
	check(t, "Readdir", err, api.OK)
	return joined(names)
}

// TestLostPiecesInTick: it tells it too.
func TestLostPiecesInTick(t *testing.T) {
	f, c := twoFiles(t)
	ok(t, f.Unmount())
	f = mounted(t, c, usual)
	loseAll(c, usual)
	ok(t, f.Tick())
	readOften(c, usual, usedBlock(f), 2001)
	check(t, "Tick", f.Tick(), api.ErrIO)
	ok(t, f.Unlink("/f"), f.Tick())
	checkNames(t, mounted(t, c, usual), "/", "e")
}
