package fs_test

import (
	"math/rand"
	"slices"
	"strings"
	"testing"

	"chert/api"
	"chert/fs"
	"chert/nand"
	"chert/node"
	"chert/page"
	"chert/tree"
)

// shownModel: the model of what a file system shows.
func shownModel(t *testing.T, f *fs.FS) *model {
	t.Helper()
	var pairs []api.Pair
	data := map[int]string{}
	paths := []string{"/"}
	for i := 0; i < len(paths); i++ {
		info, err := f.Stat(paths[i])
		check(t, "Stat", err, api.OK)
		pairs = append(pairs, inodePair(info.Number, info.Inode))
		if !info.Dir {
			data[info.Number], err = f.Read(paths[i], 0, 9000)
			check(t, "Read", err, api.OK)
			continue
		}
		names, err := f.Readdir(paths[i])
		check(t, "Readdir", err, api.OK)
		for _, name := range names {
			path := strings.TrimSuffix(paths[i], "/") + "/" + name
			below, err := f.Stat(path)
			check(t, "Stat", err, api.OK)
			pairs = append(pairs, entryPair(info.Number, name, below.Number))
			paths = append(paths, path)
		}
	}
	slices.SortFunc(pairs, func(a, b api.Pair) int { return strings.Compare(a.Key, b.Key) })
	built, err := tree.Build(slices.Compact(pairs))
	check(t, "Build", err, api.OK)
	return &model{built, data}
}

// bent: pairs as others might have written them.
func bent(random *rand.Rand, pairs []api.Pair) []api.Pair {
	pairs = slices.Clone(pairs)
	for range random.Intn(4) {
		i := random.Intn(len(pairs))
		switch p := &pairs[i]; random.Intn(5) {
		case 0:
			pairs = slices.Delete(pairs, i, i+1)
		case 1:
			p.Value = p.Value[:random.Intn(len(p.Value)+1)]
		case 2:
			p.Value = "\x00" + strings.Repeat("x", random.Intn(66))
		case 3:
			p.Value = "\x00a" + strings.Repeat("\x00", random.Intn(63))
		case 4:
			changed := []byte(p.Value)
			if len(changed) > 0 {
				changed[random.Intn(len(changed))] ^= 1 << random.Intn(8)
			}
			p.Value = string(changed)
		}
		if len(pairs) == 0 {
			return nil
		}
	}
	return pairs
}

// TestStrangePairs: what Mount accepts behaves as the model from what it shows.
func TestStrangePairs(t *testing.T) {
	accepted := 0
	for seed := range 400 {
		random := rand.New(rand.NewSource(int64(seed)))
		m := newModel()
		plan := planOf(t, usual)
		for range 40 {
			_, m = m.expect(plan, anyCall(random, m))
		}
		pairs := bent(random, m.pairs())
		c := newChip(t, usual)
		if err := fs.Lay(attached(t, c, usual), usual, 5, pairs); err != api.OK {
			check(t, "Lay", err, api.ErrFull)
			continue
		}
		f, err := fs.Mount(c, usual)
		if err != api.OK {
			check(t, "Mount", err, api.ErrForm)
			continue
		}
		accepted++
		m = shownModel(t, f)
		for range 40 {
			if cl := anyCall(random, m); m.nodesAfter(cl) < 60 { // of those, some may be stored longer than they have to be
				m = m.checkCall(t, plan, f, cl)
			}
		}
		ok(t, f.Sync())
		f = mounted(t, c, usual)
		if got, want := shownBy(t, f), m.shown(); got != want {
			t.Fatalf("seed %d: Mount shows\n%s\nand not\n%s", seed, got, want)
		}
	}
	if accepted < 100 {
		t.Errorf("only %d were accepted", accepted)
	}
}

func (m *model) nodesAfter(c call) int {
	after := m.clone()
	after.do(c)
	return len(after.pairs())
}

// TestStrangeChips: Mount and all calls end, whatever the chip holds.
func TestStrangeChips(t *testing.T) {
	random := rand.New(rand.NewSource(1))
	for range 300 {
		f, c := formatted(t, usual)
		m := newModel()
		for range 30 {
			anyCall(random, m).on(f)
		}
		if random.Intn(2) == 0 {
			f.Unmount()
		}
		for range 1 + random.Intn(6) {
			spoilSomething(t, random, c)
		}
		if f, err := fs.Mount(c, usual); err == api.OK {
			m := newModel()
			for range 30 {
				anyCall(random, m).on(f)
			}
		} else if f != nil || err != api.ErrForm && err != api.ErrIO {
			t.Fatalf("Mount is %v, %d", f, err)
		}
		f, err := fs.Format(c, usual)
		check(t, "Format", err, api.OK)
		checkShown(t, f, newModel())
	}
}

// spoilSomething changes a page or a block by other ways than a file system's.
func spoilSomething(t *testing.T, random *rand.Rand, c *nand.Chip) {
	t.Helper()
	pager, err := page.New(c, usual)
	check(t, "New", err, api.OK)
	b := random.Intn(usual.Blocks)
	var pages []string
	for p := range usual.Pages {
		found, _ := pager.Read(b, p)
		pages = append(pages, found.Payload)
	}
	switch p := random.Intn(usual.Pages); random.Intn(4) {
	case 0:
		c.Spoil(b, p)
		return
	case 1:
		pages[p] = anyData(random, 249)
	case 2:
		if pages[p] != "" {
			changed := []byte(pages[p])
			changed[random.Intn(80)] ^= 1 << random.Intn(8)
			pages[p] = string(changed)
		}
	case 3:
		gen := random.Intn(4)
		label, _ := node.PutLabel(node.Label{Kind: "SMIJ"[random.Intn(4)], Gen: gen, Number: random.Intn(3), Total: random.Intn(3)})
		pages[1] = label
		pages[0] = "L" + string([]byte{0, 0, 0, 0, 0, 0, byte(gen), []byte{0, 1, 2, 3, 102, 103, 202, 203}[random.Intn(8)], 0, 0, 0, 0, 0, 0, byte(random.Intn(2)), byte(random.Intn(256)), byte(random.Intn(4))})
	}
	c.Erase(b)
	for p, payload := range pages {
		if payload != "" {
			pager.Write(b, p, payload)
		}
	}
}

// TestStrangeLocations: an index that others changed behind the file system's back leads to no wrong bytes.
func TestStrangeLocations(t *testing.T) {
	piece := piecePair(2, 0, "abc").Key
	root := inodePair(1, node.Inode{}).Key
	for name, value := range map[string]string{
		"none":              "",
		"a short one":       "\x00\x01",
		"no block":          "\x00\x00\x00\x00\x00\x00\x00\x09\x00\x01\x00\x00",
		"no page":           "\x00\x00\x00\x00\x00\x00\x05\x66\x00\x09\x00\x00",
		"no node":           "\x00\x00\x00\x00\x00\x00\x05\x66\x00\x01\x00\x01",
		"another node":      "\x00\x00\x00\x00\x00\x00\x05\x66\x00\x01\x00\x00",
		"far behind a page": "\x00\x00\x00\x00\x00\x00\x05\x66\x00\x01\xff\xff",
	} {
		_, c := laid(t, someFile("abc"))
		f := mounted(t, c, usual)
		entries := ""
		for _, text := range []string{root, piece} {
			entries += string([]byte{byte(len(text))}) + text + string([]byte{byte(len(value))}) + value
		}
		b, _ := find(t, c, usual, index5)
		pager, err := page.New(c, usual)
		check(t, "New", err, api.OK)
		ok(t, c.Erase(b), pager.Write(b, 2, "\x00\x02"+entries))
		data, err := f.Read("/f", 0, 9)
		if data != "" || err != api.ErrIO {
			t.Errorf("%s: Read is %q, %d", name, data, err)
		}
	}
}
