package fsck_test

import (
	"fmt"
	"math/rand"
	"slices"
	"strings"
	"testing"

	"chert/api"
	"chert/fs"
	"chert/fsck"
	"chert/leb"
	"chert/nand"
	"chert/node"
)

// step is a call of a story, what it told when the power stayed on, and what there was after it.
type step struct {
	name string // of those that last, and of a Mount
	do   func(f *fs.FS) api.Errno
	err  api.Errno
	told string
}

func (s step) keeps() bool { return s.err == api.OK && (s.name == "sync" || s.name == "unmount") }

// anyCall: most of them do something.
func anyCall(random *rand.Rand) step {
	path := func() string {
		return []string{"/a", "/b", "/c", "/d", "/d/a", "/d/b", "/d/e", "/d/e/f"}[random.Intn(8)]
	}
	first, second := path(), path()
	offset, data := random.Intn(600), anyData(random)
	switch random.Intn(16) {
	case 0, 1:
		return step{do: func(f *fs.FS) api.Errno { return f.Mkdir(first) }}
	case 2, 3, 4:
		return step{do: func(f *fs.FS) api.Errno { return f.Create(first) }}
	case 5:
		return step{do: func(f *fs.FS) api.Errno { return f.Link(first, second) }}
	case 6:
		return step{do: func(f *fs.FS) api.Errno { return f.Unlink(first) }}
	case 7:
		return step{do: func(f *fs.FS) api.Errno { return f.Rmdir(first) }}
	case 8:
		return step{do: func(f *fs.FS) api.Errno { return f.Rename(first, second) }}
	case 9:
		return step{do: func(f *fs.FS) api.Errno { return f.Truncate(first, offset) }}
	case 10:
		return step{name: "sync", do: (*fs.FS).Sync}
	}
	return step{do: func(f *fs.FS) api.Errno { return f.Write(first, offset, data) }}
}

func anyData(random *rand.Rand) string {
	data := make([]byte, random.Intn(257))
	if random.Intn(2) == 0 {
		random.Read(data)
	}
	return string(data)
}

// story: random calls, and what they told and did on a chip whose power stayed on.
func story(t *testing.T, seed int, g api.Geometry, length int) []step {
	t.Helper()
	random := rand.New(rand.NewSource(int64(seed)))
	f, c := formatted(t, g)
	steps := []step{{name: "sync", do: (*fs.FS).Sync}}
	for len(steps) < length {
		if random.Intn(30) == 0 {
			steps = append(steps, step{name: "unmount", do: (*fs.FS).Unmount}, step{name: "mount"})
		} else {
			steps = append(steps, anyCall(random))
		}
	}
	steps = append(steps, step{name: "unmount", do: (*fs.FS).Unmount}, step{name: "mount"})
	for i := range steps {
		s := &steps[i]
		switch s.name {
		case "mount":
			f, s.err = fs.Mount(c, g)
		default:
			s.err = s.do(f)
		}
		if s.name == "unmount" {
			s.told = steps[i-1].told
		} else {
			s.told = told(pairsOf(t, f))
		}
	}
	return steps
}

// TestPowerLoss cuts each change of some stories in each way, spoils masters and index, and repairs.
func TestPowerLoss(t *testing.T) {
	for seed, g := range geometries {
		steps := story(t, seed, g, 60/(1+seed))
		for mode := range 8 {
			t.Run(fmt.Sprint(g, mode), func(t *testing.T) {
				t.Parallel()
				for n := 1; cutStory(t, g, steps, n, mode); n++ {
				}
			})
		}
	}
}

// cutStory tells whether the power went off before the story's end.
func cutStory(t *testing.T, g api.Geometry, steps []step, n, mode int) bool {
	t.Helper()
	when := fmt.Sprintf("change %d, mode %d", n, mode)
	f, c := formatted(t, g)
	c.Cut(n, mode)
	kept := 0
	for i, s := range steps {
		var err api.Errno
		if s.name == "mount" {
			f, err = fs.Mount(c, g)
		} else {
			err = s.do(f)
		}
		if err == api.ErrPower {
			c.On()
			random := rand.New(rand.NewSource(int64(n*8 + mode)))
			harm(t, random, c, g)
			checkAll(t, random, c, g, steps[kept:i+1], when)
			return true
		}
		check(t, when+": "+s.name, err, s.err)
		if s.keeps() {
			kept = i
		}
	}
	return false
}

// harm does something to the masters and the blocks of the index, and to nothing else.
func harm(t *testing.T, random *rand.Rand, c *nand.Chip, g api.Geometry) {
	t.Helper()
	v := attached(t, c, g)
	var own []int
	greatest := 0
	for _, id := range v.IDs() {
		greatest = max(greatest, id/256)
		if id < 2 || id%256 >= 202 {
			own = append(own, id)
		}
	}
	label := labelText("SIMJ"[random.Intn(4)], random.Intn(greatest+3), random.Intn(3), random.Intn(3))
	change := func(id int) {
		if err := v.Change(id, random.Intn(2) == 0, label, "x"); err != api.OK {
			check(t, "Change", err, api.ErrFull)
		}
	}
	switch random.Intn(6) {
	case 0:
		return
	case 1:
		for _, id := range own {
			ok(t, v.Unmap(id))
		}
	case 2:
		for _, id := range own {
			b := find(t, c, g, id)
			for p := range g.Pages {
				c.Spoil(b, p)
			}
		}
	case 3:
		for _, id := range own {
			change(id)
		}
	case 4:
		ok(t, v.Change(random.Intn(2), true, label))
	case 5:
		for k := range 54 { // as many as there is room for
			change((greatest+random.Intn(2))*256 + 202 + k)
		}
	}
}

// checkAll: a Check finds what was after one of the steps, however often the power goes off in it, and it goes on from there.
func checkAll(t *testing.T, random *rand.Rand, c *nand.Chip, g api.Geometry, steps []step, when string) {
	t.Helper()
	for range random.Intn(4) {
		c.Cut(1+random.Intn(40), random.Intn(8))
		if report, err := fsck.Check(c, g); err != api.OK && (err != api.ErrPower || report != fsck.Report{}) {
			t.Fatalf("%s: Check is %v, %d", when, report, err)
		}
		c.On()
		if random.Intn(4) == 0 {
			if f, err := fs.Mount(c, g); err == api.OK {
				checkOneOf(t, f, steps, when)
			}
		}
	}
	report, err := fsck.Check(c, g)
	check(t, when+": Check", err, api.OK)
	changes := c.Changes()
	f := mounted(t, c, g)
	if c.Changes() != changes {
		t.Fatal("Mount had something to do")
	}
	checkOneOf(t, f, steps, when)
	if nodes, _ := f.Usage(); report.Nodes != nodes || report.Wrong > 0 {
		t.Fatalf("%s: Check is %v, and there are %d nodes", when, report, nodes)
	}
	if err := f.Create("/later"); err == api.OK {
		ok(t, f.Sync())
	}
	if _, err := mounted(t, c, g).Stat("/later"); err != api.OK {
		t.Fatalf("%s: Stat is %d", when, err)
	}
}

func checkOneOf(t *testing.T, f *fs.FS, steps []step, when string) {
	t.Helper()
	got := told(pairsOf(t, f))
	if !slices.ContainsFunc(steps, func(s step) bool { return s.told == got }) {
		t.Fatalf("%s: Mount found\n%s\nwhich is not what was after one of %d steps", when, got, len(steps))
	}
}

// TestPowerLossInCheck: another one finds the same, and so does a Mount that finds anything; where there is room, a Mount finds what it found before.
func TestPowerLossInCheck(t *testing.T) {
	file := someFile(strings.Repeat("some bytes ", 40))
	fill := func(v *leb.Volume, id int) {
		for ; v.Change(id, false, "x") == api.OK; id++ {
		}
	}
	for what, x := range map[string]struct {
		mounts bool
		alter  func(v *leb.Volume)
	}{
		"nothing":                {true, func(*leb.Volume) {}},
		"no masters":             {false, func(v *leb.Volume) { ok(t, v.Unmap(0), v.Unmap(1)) }},
		"no index":               {false, func(v *leb.Volume) { ok(t, v.Unmap(index5)) }},
		"other blocks":           {true, func(v *leb.Volume) { putNodes(t, v, 7, 0, 2, "x"); fill(v, 9*256+202) }},
		"blocks of older ones":   {true, func(v *leb.Volume) { fill(v, 2*256+202) }},
		"no masters and no room": {false, func(v *leb.Volume) { ok(t, v.Unmap(0), v.Unmap(1)); fill(v, 2*256+202) }},
		"an older one": {false, func(v *leb.Volume) {
			layBeside(t, v, 4, someFile("older"))
			ok(t, v.Change(1, true, labelText('S', 4, 1, 1)))
			fill(v, index5+1)
		}},
		"a newer one": {true, func(v *leb.Volume) {
			layBeside(t, v, 6, append(file, entryPair(1, "g", 3), inodePair(3, node.Inode{Links: 1})))
			fill(v, 9*256+202)
		}},
	} {
		t.Run(what, func(t *testing.T) {
			t.Parallel()
			for n, more := 1, true; more; n++ {
				for mode := range 8 {
					v, c := laid(t, file)
					putLog(t, v, 5, logOfOneFile)
					x.alter(v)
					c.Cut(n, mode)
					more = cutCheck(t, c, len(file)+2, x.mounts && mode%2 == 1, fmt.Sprint(what, n, mode))
				}
			}
		})
	}
}

// layBeside lays a generation without masters beside what is there.
func layBeside(t *testing.T, v *leb.Volume, gen int, pairs []api.Pair) {
	t.Helper()
	from, _ := newVolume(t)
	slices.SortFunc(pairs, func(a, b api.Pair) int { return strings.Compare(a.Key, b.Key) })
	check(t, "Lay", fs.Lay(from, usual, gen, pairs), api.OK)
	for _, id := range from.IDs()[2:] {
		var pages []string
		n, _ := from.Count(id)
		for i := range n {
			page, _ := from.Read(id, i)
			pages = append(pages, page)
		}
		ok(t, v.Change(id, false, pages...))
	}
}

// cutCheck tells whether the power goes off in Check. A Mount after it finds so many pairs, if it finds anything, and another Check does.
func cutCheck(t *testing.T, c *nand.Chip, pairs int, mounts bool, when string) bool {
	t.Helper()
	report, err := fsck.Check(c, usual)
	if err == api.OK {
		return false
	}
	if err != api.ErrPower || report != (fsck.Report{}) {
		t.Fatalf("%s: Check is %v, %d", when, report, err)
	}
	checkError(t, c, usual, api.ErrPower)
	c.On()
	if strings.HasSuffix(when, "1") || mounts {
		f, err := fs.Mount(c, usual)
		if mounts || err == api.OK {
			check(t, when+": Mount", err, api.OK)
			if got := pairsOf(t, f); len(got) != pairs {
				t.Fatalf("%s: Mount shows\n%s", when, told(got))
			}
		}
	}
	if report, err := fsck.Check(c, usual); err != api.OK || report.Nodes != pairs || report.Wrong != 0 {
		t.Fatalf("%s: Check is %v, %d", when, report, err)
	}
	if got := pairsOf(t, mounted(t, c, usual)); len(got) != pairs {
		t.Fatalf("%s: Mount shows\n%s", when, told(got))
	}
	return true
}
