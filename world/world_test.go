package world_test

import (
	"fmt"
	"math"
	"math/rand"
	"slices"
	"strings"
	"testing"

	"chert/api"
	"chert/fs"
	"chert/page"
	"chert/world"
)

func mkdir(path string) world.Act    { return world.Act{Kind: world.Mkdir, Path: path} }
func create(path string) world.Act   { return world.Act{Kind: world.Create, Path: path} }
func link(path, to string) world.Act { return world.Act{Kind: world.Link, Path: path, To: to} }
func unlink(path string) world.Act   { return world.Act{Kind: world.Unlink, Path: path} }
func rmdir(path string) world.Act    { return world.Act{Kind: world.Rmdir, Path: path} }
func rename(path, to string) world.Act {
	return world.Act{Kind: world.Rename, Path: path, To: to}
}
func truncate(path string, size int) world.Act {
	return world.Act{Kind: world.Truncate, Path: path, Size: size}
}
func write(path string, offset int, data string) world.Act {
	return world.Act{Kind: world.Write, Path: path, Offset: offset, Data: data}
}
func read(path string, offset, size int) world.Act {
	return world.Act{Kind: world.Read, Path: path, Offset: offset, Size: size}
}
func readdir(path string) world.Act     { return world.Act{Kind: world.Readdir, Path: path} }
func stat(path string) world.Act        { return world.Act{Kind: world.Stat, Path: path} }
func fsync(path string) world.Act       { return world.Act{Kind: world.Fsync, Path: path} }
func cut(n, mode int) world.Act         { return world.Act{Kind: world.Cut, Offset: n, Size: mode} }
func spoil(b, p int) world.Act          { return world.Act{Kind: world.Spoil, Offset: b, Size: p} }
func wearBlock(b int) world.Act         { return world.Act{Kind: world.Wear, Offset: b} }
func noise(seed, most int) world.Act    { return world.Act{Kind: world.Noise, Offset: seed, Size: most} }
func acts(all ...world.Act) []world.Act { return all }

var (
	syncAct = world.Act{Kind: world.Sync}
	tick    = world.Act{Kind: world.Tick}
	unmount = world.Act{Kind: world.Unmount}
	mount   = world.Act{Kind: world.Mount}
	check   = world.Act{Kind: world.Check}
	format  = world.Act{Kind: world.Format}
)

func TestKinds(t *testing.T) {
	kinds := []int{
		world.Mkdir, world.Create, world.Link, world.Unlink, world.Rmdir, world.Rename, world.Truncate, world.Write,
		world.Read, world.Readdir, world.Stat, world.Sync, world.Fsync, world.Tick, world.Unmount, world.Mount,
		world.Check, world.Cut, world.Spoil, world.Wear, world.Noise, world.Format,
	}
	for i, kind := range kinds {
		if kind != i+1 {
			t.Errorf("kind %d is %d", i+1, kind)
		}
	}
}

func TestRunOfNoChip(t *testing.T) {
	for _, g := range []api.Geometry{
		{}, {Blocks: 0, Pages: 16, Chunks: 2, Chunk: 128, T: 2}, {Blocks: 65, Pages: 16, Chunks: 2, Chunk: 128, T: 2},
		{Blocks: 14, Pages: 18, Chunks: 2, Chunk: 128, T: 2}, {Blocks: 14, Pages: 68, Chunks: 2, Chunk: 128, T: 2},
		{Blocks: 14, Pages: 16, Chunks: 0, Chunk: 128, T: 2}, {Blocks: 14, Pages: 16, Chunks: 5, Chunk: 128, T: 2},
		{Blocks: 14, Pages: 16, Chunks: 2, Chunk: 15, T: 2}, {Blocks: 14, Pages: 16, Chunks: 2, Chunk: 257, T: 2},
		{Blocks: 14, Pages: 16, Chunks: 2, Chunk: 128, T: 0}, {Blocks: 14, Pages: 16, Chunks: 2, Chunk: 128, T: 9},
		{Blocks: math.MinInt, Pages: math.MaxInt, Chunks: -1, Chunk: math.MaxInt, T: math.MinInt},
	} {
		for _, script := range [][]world.Act{nil, {mkdir("/a"), syncAct}} {
			o, err := world.Run(g, script)
			if err != api.ErrArg || len(o.Told) != 0 || o.Changes != 0 || o.Reads != 0 {
				t.Errorf("Run of %v is %v, %d", g, o, err)
			}
		}
	}
}

// TestRunWithoutAFileSystem: a chip that is too small for one is a chip all the same.
func TestRunWithoutAFileSystem(t *testing.T) {
	for _, g := range []api.Geometry{
		{Blocks: 11, Pages: 16, Chunks: 2, Chunk: 128, T: 2}, {Blocks: 12, Pages: 12, Chunks: 2, Chunk: 128, T: 2},
		{Blocks: 12, Pages: 16, Chunks: 1, Chunk: 255, T: 2}, {Blocks: 1, Pages: 4, Chunks: 1, Chunk: 16, T: 1},
	} {
		want := map[int]api.Errno{
			world.Mount: api.ErrArg, world.Check: api.ErrArg, world.Format: api.ErrArg, world.Cut: api.OK, world.Spoil: api.OK,
			world.Wear: api.OK, world.Noise: api.OK, 0: api.ErrCommand, 23: api.ErrCommand,
		}
		for kind := range 24 {
			o := run(t, g, world.Act{Kind: kind, Path: "/"}, world.Act{Kind: kind, Path: "/", Offset: -1, Size: -1})
			code, isChips := want[kind]
			if !isChips {
				code = api.ErrGone
			}
			checkTold(t, world.Act{Kind: kind}, o.Told[0], world.Told{Code: code})
			if kind == world.Spoil || kind == world.Wear {
				code = api.ErrArg
			}
			checkTold(t, world.Act{Kind: kind}, o.Told[1], world.Told{Code: code})
			if o.Changes != 0 || o.Reads != 0 {
				t.Errorf("kind %d: %d changes and %d reads of a chip that nothing was done to", kind, o.Changes, o.Reads)
			}
		}
	}
}

func TestRunOfNothing(t *testing.T) {
	for _, g := range geometries {
		c, _ := page.Chip(g)
		fs.Format(c, g)
		for _, script := range [][]world.Act{nil, {}} {
			if o := run(t, g, script...); o.Changes != c.Changes() || o.Changes == 0 || o.Reads != 0 {
				t.Errorf("Run of nothing on %v is %v; a Format makes %d changes", g, o, c.Changes())
			}
		}
		_, most := c.Counts(0)
		for b := range g.Blocks {
			_, reads := c.Counts(b)
			most = max(most, reads)
		}
		if o := run(t, g, world.Act{}); o.Reads != most {
			t.Errorf("Run tells %d reads after an act that does nothing, not %d", o.Reads, most)
		}
	}
}

func TestExample(t *testing.T) {
	o := run(t, usual, create("/f"), write("/f", 0, "ab"), syncAct, cut(1, 0), mkdir("/a"), syncAct, mount, read("/f", 0, 9))
	if o.Told[5].Code != api.ErrPower || o.Told[6].Code != api.OK {
		t.Errorf("the Sync is %d, and the Mount %d", o.Told[5].Code, o.Told[6].Code)
	}
	checkTold(t, world.Act{}, o.Told[7], world.Told{Data: "ab"})
}

// TestExamples: those of the whole.
func TestExamples(t *testing.T) {
	checkLast(t, acts(mkdir("/a"), create("/a/f"), readdir("/a")), world.Told{Names: []string{"f"}})
	checkLast(t, acts(mkdir("/a"), create("/a/f"), stat("/a/f")), world.Told{Number: 3, Links: 1})
	checkLast(t, acts(write("/f", 0, "ab")), world.Told{Code: api.ErrMissing})
	checkLast(t, acts(mkdir("/a"), write("/a", 0, "x")), world.Told{Code: api.ErrIsDir})
	checkLast(t, acts(create("/f"), write("/f", 100, "x"), read("/f", 98, 9)), world.Told{Data: "\x00\x00x"})
	checkLast(t, acts(create("/f"), write("/f", 0, "ab"), link("/f", "/g"), unlink("/f"), read("/g", 0, 9)), world.Told{Data: "ab"})
	checkLast(t, acts(mkdir("/a"), rename("/a", "/a/b")), world.Told{Code: api.ErrInside})
	checkLast(t, acts(mkdir("/a"), create("/f"), rename("/a", "/f")), world.Told{Code: api.ErrNotDir})
	checkLast(t, acts(mkdir("/a"), mkdir("/b"), create("/b/f"), rename("/a", "/b")), world.Told{Code: api.ErrNotEmpty})
	checkLast(t, acts(create("/f"), truncate("/f", 8193)), world.Told{Code: api.ErrBig})
	checkLast(t, acts(create("/f"), write("/f", 0, strings.Repeat("x", 257))), world.Told{Code: api.ErrInvalid})
	checkLast(t, acts(create("/"+strings.Repeat("x", 33))), world.Told{Code: api.ErrNameLong})
	checkLast(t, acts(create("/f"), syncAct, create("/g"), mount, stat("/f")), world.Told{Number: 2, Links: 1})
	script := acts(mkdir("/a"), create("/a/f"), write("/a/f", 0, "abc"), unmount)
	for b := range usual.Blocks {
		script = append(script, spoil(b, 1))
	}
	checkLast(t, append(script, mount, read("/a/f", 0, 9)), world.Told{Data: "abc"})
}

// TestActs: each act that a file system answers, with all that it tells.
func TestActs(t *testing.T) {
	checkLast(t, acts(mkdir("/a"), stat("/a")), world.Told{Number: 2, Links: 1, Dir: true})
	checkLast(t, acts(mkdir("/a"), rmdir("/a"), readdir("/")), world.Told{})
	checkLast(t, acts(create("/f"), link("/f", "/g"), stat("/g")), world.Told{Number: 2, Links: 2})
	checkLast(t, acts(create("/f"), create("/e"), rename("/f", "/g"), readdir("/")), world.Told{Names: []string{"e", "g"}})
	checkLast(t, acts(create("/f"), truncate("/f", 7), stat("/f")), world.Told{Number: 2, Links: 1, Size: 7})
	checkLast(t, acts(create("/f"), write("/f", 3, "abc"), read("/f", 4, 1)), world.Told{Data: "b"})
	checkLast(t, acts(create("/f"), fsync("/f"), create("/g"), mount, readdir("/")), world.Told{Names: []string{"f"}})
	checkLast(t, acts(create("/f"), tick), world.Told{})
	for _, a := range acts(mkdir("/x/y"), create("/x/y"), link("/x", "/y"), unlink("/x"), rmdir("/x"), rename("/x", "/y"),
		truncate("/x", 0), write("/x", 0, "a"), read("/x", 0, 9), readdir("/x"), stat("/x"), fsync("/x")) {
		checkLast(t, acts(a), world.Told{Code: api.ErrMissing})
	}
	checkLast(t, acts(mkdir("/")), world.Told{Code: api.ErrExists})
	checkLast(t, acts(create("/f"), read("/f", -1, 0)), world.Told{Code: api.ErrInvalid})
	checkLast(t, acts(create("/f"), read("/f", 0, -1)), world.Told{Code: api.ErrInvalid})
}

func TestStrangeKinds(t *testing.T) {
	for _, kind := range []int{0, -1, 23, 24, 256 + 1, math.MinInt, math.MaxInt} {
		checkLast(t, acts(create("/f"), world.Act{Kind: kind, Path: "/f"}), world.Told{Code: api.ErrCommand})
		checkCodes(t, acts(unmount, world.Act{Kind: kind}), api.OK, api.ErrCommand)
	}
}

// TestGone: acts that need a file system that is mounted.
func TestGone(t *testing.T) {
	for kind := world.Mkdir; kind <= world.Unmount; kind++ {
		a := world.Act{Kind: kind, Path: "/", To: "/"}
		checkCodes(t, acts(unmount, a), api.OK, api.ErrGone)
		checkCodes(t, acts(check, a), api.OK, api.ErrGone)
	}
	checkCodes(t, acts(create("/f"), unmount, mount, stat("/f"), unmount, unmount), 0, 0, 0, 0, 0, api.ErrGone)
}

// TestUnmountThatFails: the file system is still mounted.
func TestUnmountThatFails(t *testing.T) {
	checkCodes(t, acts(create("/f"), cut(1, 0), unmount, unmount, stat("/f")), 0, 0, api.ErrPower, api.ErrPower, api.ErrPower)
	script := acts(create("/f"))
	want := []api.Errno{api.OK}
	for b := range usual.Blocks {
		script, want = append(script, wearBlock(b)), append(want, api.OK)
	}
	checkCodes(t, append(script, unmount, stat("/f")), append(want, api.ErrFull, api.OK)...)
}

// TestMountAbandons: what was mounted is forgotten, with all that was not written, whatever the Mount comes to.
func TestMountAbandons(t *testing.T) {
	checkCodes(t, acts(create("/f"), mount, stat("/f"), create("/f"), mount), 0, 0, api.ErrMissing, 0, 0)
	checkCodes(t, acts(create("/f"), syncAct, check, mount, stat("/f")), 0, 0, 0, 0, 0)
	script := acts(create("/f"))
	want := []api.Errno{api.OK}
	for b := range usual.Blocks {
		for p := range usual.Pages {
			script, want = append(script, spoil(b, p)), append(want, api.OK)
		}
	}
	script = append(script, stat("/f"), mount, stat("/f"), check, mount, format, stat("/"), mount)
	got := codes(t, script...)[len(want):]
	if got[0] != api.OK || got[1] == api.OK || got[2] != api.ErrGone || got[3] != api.ErrForm || got[4] == api.OK || !slices.Equal(got[5:], []api.Errno{0, 0, 0}) {
		t.Errorf("on a chip of lost pages, the acts are answered %v", got)
	}
}

// TestFormat: everything is new, and what was mounted is forgotten.
func TestFormat(t *testing.T) {
	checkCodes(t, acts(create("/f"), syncAct, format, stat("/f"), mount, stat("/f"), readdir("/")), 0, 0, 0, api.ErrMissing, 0, api.ErrMissing, 0)
	checkCodes(t, acts(unmount, format, create("/f")), 0, 0, 0)
	script := acts(create("/f"))
	want := []api.Errno{api.OK}
	for b := range usual.Blocks {
		script, want = append(script, wearBlock(b)), append(want, api.OK)
	}
	got := codes(t, append(script, format, stat("/f"), mount)...)[len(want):]
	if got[0] != api.ErrFull || got[1] != api.ErrGone {
		t.Errorf("on a worn chip, Format and Stat are answered %v", got)
	}
}

// TestPowerComesBack with each Mount, Check and Format, and with none of the other acts; a cut that waits is forgotten.
func TestPowerComesBack(t *testing.T) {
	for _, a := range acts(mount, check, format) {
		checkCodes(t, acts(create("/f"), syncAct, cut(1, 2), create("/g"), syncAct, stat("/f"), a, mount, create("/h"), syncAct, unmount),
			0, 0, 0, 0, api.ErrPower, api.ErrPower, 0, 0, 0, 0, 0)
		checkCodes(t, acts(cut(1, 2), a, mount, create("/h"), syncAct), 0, 0, 0, 0, 0)
	}
	off := acts(create("/g"), cut(1, 0), syncAct)
	for _, a := range acts(cut(9, 0), spoil(0, 0), wearBlock(0), noise(1, 1), world.Act{}) {
		got := codes(t, append(slices.Clone(off), a, syncAct)...)
		if got[4] != api.ErrPower {
			t.Errorf("after %v, a Sync without power is answered %d", a, got[4])
		}
	}
}

// TestCut: at which change, and how torn.
func TestCut(t *testing.T) {
	written := acts(create("/f"), syncAct, create("/g"))
	for n := -1; n < 4; n++ {
		script := append(slices.Clone(written), cut(n, 2), syncAct, create("/h"), syncAct, mount, readdir("/"))
		o := run(t, usual, script...)
		if wantPower := n <= 1; (o.Told[4].Code == api.ErrPower) != wantPower {
			t.Errorf("with a Cut of %d, the Sync is answered %d", n, o.Told[4].Code)
		}
	}
	for mode := -9; mode < 9; mode++ {
		o := run(t, usual, append(slices.Clone(written), cut(1, mode), syncAct, mount, readdir("/"))...)
		if got := len(o.Told[6].Names); got < 1 {
			t.Errorf("with a Cut in mode %d, what was synced is gone", mode)
		}
	}
	checkCodes(t, acts(cut(1, 0), cut(900, 0), create("/f"), syncAct), 0, 0, 0, 0)
}

func TestSpoilAndWear(t *testing.T) {
	checkCodes(t, acts(spoil(-1, 0), spoil(14, 0), spoil(0, -1), spoil(0, 16), spoil(13, 15), spoil(0, 0)), 1, 1, 1, 1, 0, 0)
	checkCodes(t, acts(wearBlock(-1), wearBlock(14), wearBlock(0), wearBlock(13)), 1, 1, 0, 0)
}

// TestNoise: T bits of each chunk with its parity are corrected, and many more are not.
func TestNoise(t *testing.T) {
	for i, g := range geometries {
		script := acts(create("/f"), write("/f", 0, "abc"), syncAct, noise(i, g.T))
		for range 20 {
			script = append(script, mount, read("/f", 0, 9))
		}
		for _, told := range run(t, g, script...).Told {
			if told.Code != api.OK || told.Data != "" && told.Data != "abc" {
				t.Fatalf("with %d bits turned in each chunk of %v, an act is answered %v", g.T, g, told)
			}
		}
		o := run(t, g, noise(1, 64), mount, noise(1, 0), mount)
		if o.Told[1].Code == api.OK || o.Told[3].Code != api.OK {
			t.Errorf("with 64 bits turned, Mount is answered %d, and with none %d", o.Told[1].Code, o.Told[3].Code)
		}
	}
}

// anyAct: of any kind, and often one that does something.
func anyAct(random *rand.Rand, g api.Geometry) world.Act {
	a := world.Act{Kind: random.Intn(25) - 1, Path: anyPath(random), To: anyPath(random), Offset: random.Intn(300) - 2, Size: random.Intn(600) - 2, Data: anyData(random)}
	switch a.Kind {
	case world.Cut:
		a.Offset = random.Intn(80)
	case world.Spoil:
		a.Offset, a.Size = random.Intn(g.Blocks+2)-1, random.Intn(g.Pages+2)-1
	case world.Wear:
		a.Offset = random.Intn(g.Blocks * 40)
	case world.Noise:
		a.Size = random.Intn(g.T + 2)
	case world.Unmount, world.Check, world.Format:
		if random.Intn(5) > 0 {
			a.Kind = world.Write
		}
	}
	return a
}

func anyPath(random *rand.Rand) string {
	path := ""
	for range 1 + random.Intn(2) {
		path += "/" + string(rune('a'+random.Intn(4)))
	}
	return path
}

func anyData(random *rand.Rand) string {
	data := make([]byte, random.Intn(260))
	random.Read(data)
	return string(data[:random.Intn(len(data)+1)])
}

// TestByHand compares scripts of all acts with what the layers below answer.
func TestByHand(t *testing.T) {
	t.Parallel()
	for seed := range 24 {
		random := rand.New(rand.NewSource(int64(seed)))
		g := geometries[seed%len(geometries)]
		var script []world.Act
		for range 300 {
			script = append(script, anyAct(random, g))
		}
		before := slices.Clone(script)
		got := run(t, g, script...)
		if !slices.Equal(script, before) {
			t.Fatal("Run changed the script")
		}
		for _, want := range []world.Outcome{byHand(t, g, script), run(t, g, script...)} {
			for i := range script {
				checkTold(t, script[i], got.Told[i], want.Told[i])
			}
			if got.Changes != want.Changes || got.Reads != want.Reads {
				t.Fatalf("seed %d: %d changes and %d reads, not %d and %d", seed, got.Changes, got.Reads, want.Changes, want.Reads)
			}
		}
	}
}

// TestSpareCapacity: what lies behind a script is left alone.
func TestSpareCapacity(t *testing.T) {
	all := acts(create("/f"), readdir("/"), stat("/f"))
	o := run(t, usual, all[:2]...)
	if all[2] != stat("/f") || len(o.Told) != 2 {
		t.Fatal("Run reaches behind the script")
	}
	again := run(t, usual, all...)
	again.Told[1].Names[0] = "other"
	if fmt.Sprint(o.Told[1].Names) != "[f]" {
		t.Fatal("two outcomes share their names")
	}
}
