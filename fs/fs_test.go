package fs_test

import (
	"math"
	"slices"
	"strings"
	"testing"

	"chert/api"
	"chert/fs"
	"chert/node"
)

func checkNames(t *testing.T, f *fs.FS, path string, want ...string) {
	t.Helper()
	if names, err := f.Readdir(path); err != api.OK || !slices.Equal(names, want) {
		t.Fatalf("Readdir(%s) is %q, %d, not %q", path, names, err, want)
	}
}

func checkStat(t *testing.T, f *fs.FS, path string, number int, inode node.Inode) {
	t.Helper()
	if info, err := f.Stat(path); err != api.OK || info != (fs.Info{Number: number, Inode: inode}) {
		t.Fatalf("Stat(%s) is %v, %d, not %d, %v", path, info, err, number, inode)
	}
}

// TestExample is the chapter's.
func TestExample(t *testing.T) {
	f, c := formatted(t, usual)
	ok(t, f.Create("/f"), f.Write("/f", 0, "abc"), f.Sync())
	c.Cut(1, 0)
	check(t, "Unmount", f.Unmount(), api.ErrPower)
	c.On()
	checkRead(t, mounted(t, c, usual), "/f", 0, 9, "abc", api.OK)
}

// TestExamplesOfTheWhole are those of the document's first page, but for what Check does in the tenth.
func TestExamplesOfTheWhole(t *testing.T) {
	f, _ := formatted(t, usual)
	ok(t, f.Mkdir("/a"), f.Create("/a/f"))
	checkNames(t, f, "/a", "f")
	checkStat(t, f, "/a/f", 3, node.Inode{Links: 1})

	f, _ = formatted(t, usual)
	check(t, "Write", f.Write("/f", 0, "ab"), api.ErrMissing)
	ok(t, f.Mkdir("/a"))
	check(t, "Write", f.Write("/a", 0, "x"), api.ErrIsDir)

	f, _ = formatted(t, usual)
	ok(t, f.Create("/f"), f.Write("/f", 100, "x"))
	checkRead(t, f, "/f", 98, 9, "\x00\x00x", api.OK)

	f, _ = formatted(t, usual)
	ok(t, f.Create("/f"), f.Write("/f", 0, "abc"), f.Link("/f", "/g"), f.Unlink("/f"))
	checkRead(t, f, "/g", 0, 9, "abc", api.OK)

	f, _ = formatted(t, usual)
	ok(t, f.Mkdir("/a"), f.Mkdir("/b"), f.Create("/b/c"), f.Create("/f"))
	check(t, "Rename", f.Rename("/a", "/a/b"), api.ErrInside)
	check(t, "Rename", f.Rename("/a", "/f"), api.ErrNotDir)
	check(t, "Rename", f.Rename("/a", "/b"), api.ErrNotEmpty)

	check(t, "Truncate", f.Truncate("/f", 8193), api.ErrBig)
	check(t, "Write", f.Write("/f", 0, strings.Repeat("x", 257)), api.ErrInvalid)
	check(t, "Create", f.Create("/"+strings.Repeat("x", 33)), api.ErrNameLong)
}

// TestExamplesOfLoss are those of them in which something is lost.
func TestExamplesOfLoss(t *testing.T) {
	f, c := formatted(t, usual)
	ok(t, f.Create("/f"), f.Sync(), f.Create("/g"))
	c.Cut(1, 0)
	check(t, "Sync", f.Sync(), api.ErrPower)
	c.On()
	checkStat(t, mounted(t, c, usual), "/f", 2, node.Inode{Links: 1})

	for p := range usual.Pages {
		f, c = formatted(t, usual)
		ok(t, f.Create("/f"), f.Write("/f", 0, "abc"), f.Unmount())
		for b := range usual.Blocks {
			c.Spoil(b, p)
		}
		checkRead(t, mounted(t, c, usual), "/f", 0, 9, "abc", api.OK)
	}

	v := attached(t, c, usual)
	ok(t, v.Unmap(0), v.Unmap(1))
	checkNoMount(t, c, usual, api.ErrForm)
}

// TestWrongCalls: the errors of calls come in the chapters' order.
func TestWrongCalls(t *testing.T) {
	f, c := formatted(t, usual)
	ok(t, f.Mkdir("/d"), f.Create("/f"), f.Write("/f", 0, "abc"), f.Sync())
	changes := c.Changes()
	long, wide := strings.Repeat("x", 257), "/"+strings.Repeat("n", 33)
	for i, err := range []api.Errno{
		f.Write("f", -1, ""), f.Write("/g", -1, ""), f.Write("/f/g", 0, ""), f.Write("/d", -1, ""), f.Write(wide, 0, ""),
		f.Write("/f", -1, "a"), f.Write("/f", 0, long), f.Write("/f", 9000, long), f.Write("/f", 8192, "a"), f.Write("/f", math.MaxInt, "a"), f.Write("/f", 8193, ""),
		f.Truncate("", 0), f.Truncate("/g", -1), f.Truncate("/d", -1), f.Truncate("/f", -1), f.Truncate("/f", 8193), f.Truncate("/f", math.MaxInt),
		f.Fsync("/g"), f.Fsync("/f/g"), f.Fsync("x"),
		f.Mkdir("/d"), f.Create("/"), f.Link("/d", "/e"), f.Unlink("/d"), f.Rmdir("/f"), f.Rmdir("/"), f.Rename("/", "/x"), f.Rename("/f", "/"),
	} {
		want := []api.Errno{
			api.ErrInvalid, api.ErrMissing, api.ErrNotDir, api.ErrIsDir, api.ErrNameLong,
			api.ErrInvalid, api.ErrInvalid, api.ErrInvalid, api.ErrBig, api.ErrBig, api.ErrBig,
			api.ErrInvalid, api.ErrMissing, api.ErrIsDir, api.ErrInvalid, api.ErrBig, api.ErrBig,
			api.ErrMissing, api.ErrNotDir, api.ErrInvalid,
			api.ErrExists, api.ErrExists, api.ErrIsDir, api.ErrIsDir, api.ErrNotDir, api.ErrInvalid, api.ErrInvalid, api.ErrInvalid,
		}[i]
		if err != want {
			t.Errorf("call %d is %d, not %d", i, err, want)
		}
	}
	ok(t, f.Sync())
	if c.Changes() != changes {
		t.Error("a call that told an error changed the chip")
	}
	checkRead(t, f, "/d", -1, 1, "", api.ErrIsDir)
	checkRead(t, f, "/g", -1, 1, "", api.ErrMissing)
	checkRead(t, f, "/f", -1, 1, "", api.ErrInvalid)
	checkRead(t, f, "/f", 0, -1, "", api.ErrInvalid)
	checkRead(t, f, "/f", math.MinInt, math.MinInt, "", api.ErrInvalid)
	for _, path := range []string{"/f", "/g", "g"} {
		if names, err := f.Readdir(path); len(names) > 0 || err == api.OK {
			t.Errorf("Readdir(%s) is %v, %d", path, names, err)
		}
	}
	if info, err := f.Stat("/g"); info != (fs.Info{}) || err != api.ErrMissing {
		t.Errorf("Stat is %v, %d", info, err)
	}
}

func TestReadOfAFile(t *testing.T) {
	f, _ := formatted(t, geometries[3])
	full := strings.Repeat("0123456789abcdef", 512)
	ok(t, f.Create("/f"))
	for at := 0; at < 8192; at += 256 {
		ok(t, f.Write("/f", at, full[at:at+256]))
	}
	checkRead(t, f, "/f", 0, math.MaxInt, full, api.OK)
	checkRead(t, f, "/f", 63, 66, full[63:129], api.OK)
	checkRead(t, f, "/f", 8191, 2, full[8191:], api.OK)
	checkRead(t, f, "/f", 5, 0, "", api.OK)
	for _, offset := range []int{8192, 8193, math.MaxInt} {
		checkRead(t, f, "/f", offset, math.MaxInt, "", api.OK)
	}
}

// TestGrowingIsZero: bytes that were cut off don't come back.
func TestGrowingIsZero(t *testing.T) {
	f, c := formatted(t, usual)
	ok(t, f.Create("/f"), f.Write("/f", 0, strings.Repeat("x", 200)), f.Truncate("/f", 70), f.Truncate("/f", 200))
	want := strings.Repeat("x", 70) + strings.Repeat("\x00", 130)
	checkRead(t, f, "/f", 0, 999, want, api.OK)
	ok(t, f.Unmount())
	f = mounted(t, c, usual)
	checkRead(t, f, "/f", 0, 999, want, api.OK)
	ok(t, f.Truncate("/f", 0), f.Write("/f", 100, "y"), f.Sync())
	f = mounted(t, c, usual)
	checkRead(t, f, "/f", 0, 999, strings.Repeat("\x00", 100)+"y", api.OK)
	checkUsage(t, f, 4, planOf(t, usual).Capacity())
}

// TestPiecesGoWithTheirFile: the last name takes all that a file has, however it goes.
func TestPiecesGoWithTheirFile(t *testing.T) {
	f, c := formatted(t, usual)
	ok(t, f.Create("/f"), f.Write("/f", 0, strings.Repeat("x", 200)), f.Create("/g"), f.Write("/g", 0, "abc"))
	checkUsage(t, f, 10, planOf(t, usual).Capacity())
	ok(t, f.Rename("/g", "/f"))
	checkUsage(t, f, 4, planOf(t, usual).Capacity())
	checkRead(t, f, "/f", 0, 9, "abc", api.OK)
	ok(t, f.Link("/f", "/h"), f.Unlink("/f"))
	checkUsage(t, f, 4, planOf(t, usual).Capacity())
	ok(t, f.Unlink("/h"))
	checkUsage(t, f, 1, planOf(t, usual).Capacity())
	ok(t, f.Sync())
	f = mounted(t, c, usual)
	checkUsage(t, f, 1, planOf(t, usual).Capacity())
	ok(t, f.Create("/f"), f.Truncate("/f", 200))
	checkRead(t, f, "/f", 0, 999, strings.Repeat("\x00", 200), api.OK)
}

func TestNoFileSystem(t *testing.T) {
	for _, f := range []*fs.FS{nil, {}} {
		for _, name := range []string{"mkdir", "create", "link", "unlink", "rmdir", "rename", "write", "truncate", "read", "readdir", "stat", "sync", "fsync", "tick", "unmount"} {
			if got := (call{name: name, path: "/"}).on(f); got != (told{err: api.ErrArg}) {
				t.Errorf("%s is %v", name, got)
			}
		}
		checkUsage(t, f, 0, 0)
		if blocks := f.Blocks(); len(blocks) > 0 {
			t.Errorf("Blocks is %v", blocks)
		}
	}
}

func TestListsAreNew(t *testing.T) {
	f, _ := formatted(t, usual)
	ok(t, f.Create("/a"), f.Create("/b"))
	names, _ := f.Readdir("/")
	names[0], names[1] = "x", "y"
	checkNames(t, f, "/", "a", "b")
	blocks := f.Blocks()
	for i := range blocks {
		blocks[i].Used, blocks[i].Worn = true, true
	}
	ok(t, f.Unmount())
	if slices.Equal(f.Blocks(), blocks) {
		t.Error("Blocks tells what a caller wrote")
	}
}
