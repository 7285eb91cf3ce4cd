package fsck_test

import (
	"math/rand"
	"slices"
	"strings"
	"testing"

	"chert/api"
	"chert/fs"
	"chert/fsck"
	"chert/nand"
	"chert/node"
	"chert/page"
)

// TestStrangeChips: Check ends, whatever a chip holds; what it accepts can be mounted, and behaves as what it shows.
func TestStrangeChips(t *testing.T) {
	accepted, corrected := 0, 0
	for seed := range 500 {
		random := rand.New(rand.NewSource(int64(seed)))
		f, c := formatted(t, usual)
		for range random.Intn(60) {
			if s := anyCall(random); s.do(f) == api.OK && random.Intn(40) == 0 {
				ok(t, f.Unmount())
				f = mounted(t, c, usual)
			}
		}
		ok(t, f.Sync())
		for range random.Intn(16) {
			bend(t, random, c)
		}
		if random.Intn(4) == 0 {
			c.Wear(random.Intn(usual.Blocks))
		}
		report, err := fsck.Check(c, usual)
		switch err {
		case api.OK:
			accepted++
			corrected += min(report.Wrong, 1)
			checkBehaviour(t, random, c)
		case api.ErrForm, api.ErrIO, api.ErrFull, api.ErrArg:
			if report != (fsck.Report{}) {
				t.Fatalf("seed %d: Check is %v, %d", seed, report, err)
			}
			if f, err := fs.Mount(c, usual); (err == api.OK) != (f != nil) {
				t.Fatalf("seed %d: Mount is %v, %d", seed, f, err)
			}
		default:
			t.Fatalf("seed %d: Check is %d", seed, err)
		}
	}
	if accepted < 100 || corrected < 20 {
		t.Errorf("%d were accepted, and %d corrected", accepted, corrected)
	}
}

// checkBehaviour compares a chip with a new one that shows the same.
func checkBehaviour(t *testing.T, random *rand.Rand, c *nand.Chip) {
	t.Helper()
	f := mounted(t, c, usual)
	v, other := newVolume(t)
	check(t, "Lay", fs.Lay(v, usual, 5, pairsOf(t, f)), api.OK)
	want := mounted(t, other, usual)
	for range 60 {
		s := anyCall(random)
		gotErr, wantErr := s.do(f), s.do(want)
		if gotErr == api.ErrNoSpace || wantErr == api.ErrNoSpace || gotErr == api.ErrFull {
			return // on worn blocks, or by nodes that are longer than they have to be
		}
		check(t, "a call", gotErr, wantErr)
	}
	if got, want := told(pairsOf(t, f)), told(pairsOf(t, want)); got != want {
		t.Fatalf("it shows\n%s\nand not\n%s", got, want)
	}
	if f.Sync() == api.OK && told(pairsOf(t, mounted(t, c, usual))) != told(pairsOf(t, want)) {
		t.Fatal("Mount shows something else")
	}
}

// bend changes a page or a block by other ways than a file system's.
func bend(t *testing.T, random *rand.Rand, c *nand.Chip) {
	t.Helper()
	pager, err := page.New(c, usual)
	check(t, "New", err, api.OK)
	b, p := random.Intn(usual.Blocks), random.Intn(usual.Pages)
	var pages []string
	for p := range usual.Pages {
		found, _ := pager.Read(b, p)
		pages = append(pages, found.Payload)
	}
	switch random.Intn(6) {
	case 0:
		c.Spoil(b, p)
		return
	case 1:
		pages[p] = "junk"
	case 2, 3:
		pages[1+random.Intn(2)] = bentNodes(random)
	case 4:
		if pages[p] != "" {
			changed := []byte(pages[p])
			changed[random.Intn(80)] ^= 1 << random.Intn(8)
			pages[p] = string(changed)
		}
	case 5:
		gen := random.Intn(4)
		pages[1] = labelText("SMIJ"[random.Intn(4)], gen, random.Intn(3), random.Intn(3))
		pages[0] = "L" + string([]byte{0, 0, 0, 0, 0, 0, byte(gen), []byte{0, 1, 2, 3, 102, 103, 202, 203}[random.Intn(8)], 0, 0, 0, 0, 0, 0, byte(random.Intn(2)), byte(random.Intn(256)), byte(random.Intn(4))})
	}
	c.Erase(b)
	for p, payload := range pages {
		if payload != "" {
			pager.Write(b, p, payload)
		}
	}
}

// bentNodes: a page of nodes that are valid, but for what they say.
func bentNodes(random *rand.Rand) string {
	all := ""
	for range random.Intn(6) {
		number, name := random.Intn(6), string(rune('a'+random.Intn(4)))
		p := []api.Pair{
			inodePair(number, node.Inode{Dir: random.Intn(2) == 0, Links: random.Intn(3), Size: random.Intn(300)}),
			entryPair(number, name, random.Intn(6)),
			piecePair(number, random.Intn(3), "xyz"),
			{Key: piecePair(number, random.Intn(3), "x").Key, Value: "\x00" + strings.Repeat("x", random.Intn(70))},
			{Key: name, Value: name},
		}[random.Intn(5)]
		n := node.Node{Seq: random.Intn(9), Key: p.Key, Value: p.Value, Last: random.Intn(9) == 0}
		if random.Intn(30) == 0 {
			n.Gone, n.Value = true, ""
		}
		if text := nodeText(n); len(all)+len(text) <= 249 {
			all += text
		}
	}
	return all
}

// TestStrangeGenerations: what others laid as nodes and groups, in any order.
func TestStrangeGenerations(t *testing.T) {
	for seed := range 500 {
		random := rand.New(rand.NewSource(int64(seed)))
		v, c := newVolume(t)
		for gen := range 3 {
			total := 1 + random.Intn(2)
			for k := range total - random.Intn(10)/9 {
				var pages []string
				for range random.Intn(5) {
					pages = append(pages, bentNodes(random))
				}
				putNodes(t, v, gen, k, total, pages...)
			}
			if random.Intn(2) == 0 {
				ok(t, v.Change(gen*256+2, true, labelText('J', gen, 0, 0), bentNodes(random), bentNodes(random)))
			}
		}
		report, err := fsck.Check(c, usual)
		if (err == api.ErrIO || err == api.ErrForm) && report == (fsck.Report{}) {
			continue // a node is gone, or a block missing
		}
		check(t, "Check", err, api.OK)
		again, err := fsck.Check(c, usual)
		if err != api.OK || again != (fsck.Report{Gen: again.Gen, Nodes: report.Nodes}) || again.Gen <= report.Gen {
			t.Fatalf("seed %d: Check is %v, and %v, %d then", seed, report, again, err)
		}
		checkBehaviour(t, random, c)
	}
}

// TestNoise: turned bits, and a lost page in each group, are no harm.
func TestNoise(t *testing.T) {
	for seed, g := range geometries {
		f, c := formatted(t, g)
		for _, s := range story(t, seed, g, 40)[1:] {
			if s.name == "" {
				s.do(f)
			}
		}
		ok(t, f.Unmount())
		want := pairsOf(t, mounted(t, c, g))
		raw, _ := page.Raw(g)
		c.Noise(seed, g.T, raw/g.Chunks)
		v := attached(t, c, g)
		for _, id := range v.IDs() {
			b := find(t, c, g, id)
			c.Spoil(b, 1) // an upper and a lower page
			c.Spoil(b, 2)
		}
		report, err := fsck.Check(c, g)
		if err != api.OK || report.Nodes != len(want) || report.Wrong != 0 {
			t.Fatalf("Check is %v, %d", report, err)
		}
		if got := pairsOf(t, mounted(t, c, g)); !slices.Equal(got, want) {
			t.Fatalf("Mount shows\n%s\nand not\n%s", told(got), told(want))
		}
	}
}
