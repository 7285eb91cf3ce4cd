package node_test

import (
	"encoding/binary"
	"math"
	"math/rand"
	"strings"
	"testing"

	"chert/api"
	"chert/node"
)

// eight: each number in eight bytes.
func eight(list ...uint64) string {
	var b []byte
	for _, n := range list {
		b = binary.BigEndian.AppendUint64(b, n)
	}
	return string(b)
}

// edges: numbers that are from 0 to MaxNumber, and some that are not.
var edges = []int{0, 1, 255, 256, 1<<32 - 1, 1 << 32, api.MaxNumber - 1, api.MaxNumber, api.MaxNumber + 1, 1 << 48, -1, -2, math.MinInt, math.MinInt + 1, math.MaxInt}

func inRange(list ...int) bool {
	for _, n := range list {
		if n < 0 || n > 1<<40 {
			return false
		}
	}
	return true
}

func checkGetInode(t *testing.T, s string, want node.Inode, wantOK bool) {
	t.Helper()
	if got, ok := node.GetInode(s); got != want || ok != wantOK {
		t.Errorf("GetInode(%x) is %v, %v, not %v, %v", s, got, ok, want, wantOK)
	}
}

func TestInode(t *testing.T) {
	for _, dir := range []bool{false, true} {
		for _, links := range edges {
			for _, size := range edges {
				i := node.Inode{Dir: dir, Links: links, Size: size}
				want := "\x00" + eight(uint64(links), uint64(size))
				if dir {
					want = "\x01" + want[1:]
				}
				if got := node.PutInode(i); got != want {
					t.Errorf("PutInode(%v) is %x, not %x", i, got, want)
				}
				if !inRange(links, size) {
					i = node.Inode{}
				}
				checkGetInode(t, want, i, inRange(links, size))
			}
		}
	}
}

func TestInodeBytes(t *testing.T) {
	want := "\x01\x00\x00\x00\x00\x00\x00\x00\x02\x00\x00\x00\x00\x00\x00\x03\x04"
	if got := node.PutInode(node.Inode{Dir: true, Links: 2, Size: 0x0304}); got != want {
		t.Errorf("PutInode is %x, not %x", got, want)
	}
	want = "\x00\xff\xff\xff\xff\xff\xff\xff\xff\x80\x00\x00\x00\x00\x00\x00\x00"
	if got := node.PutInode(node.Inode{Links: -1, Size: math.MinInt}); got != want {
		t.Errorf("PutInode is %x, not %x", got, want)
	}
}

func TestGetInodeOfNone(t *testing.T) {
	text := "\x01" + eight(1, 2)
	for n := range len(text) {
		checkGetInode(t, text[:n], node.Inode{}, false)
	}
	for _, s := range []string{text + "\x00", text + text, "\x00" + text, strings.Repeat("\x00", 1000)} {
		checkGetInode(t, s, node.Inode{}, false)
	}
	for first := 2; first < 256; first++ {
		checkGetInode(t, string([]byte{byte(first)})+text[1:], node.Inode{}, false)
	}
}

func TestEntry(t *testing.T) {
	for _, number := range edges {
		text := eight(uint64(number))
		if got := node.PutEntry(number); got != text {
			t.Errorf("PutEntry(%d) is %x, not %x", number, got, text)
		}
		want, wantOK := number, inRange(number)
		if !wantOK {
			want = 0
		}
		if got, ok := node.GetEntry(text); got != want || ok != wantOK {
			t.Errorf("GetEntry(%x) is %d, %v, not %d, %v", text, got, ok, want, wantOK)
		}
	}
}

func TestEntryBytes(t *testing.T) {
	for number, want := range map[int]string{
		0x0102030405: "\x00\x00\x00\x01\x02\x03\x04\x05",
		-2:           "\xff\xff\xff\xff\xff\xff\xff\xfe",
	} {
		if got := node.PutEntry(number); got != want {
			t.Errorf("PutEntry(%d) is %x, not %x", number, got, want)
		}
	}
}

func TestGetEntryOfNone(t *testing.T) {
	text := eight(3)
	for n := range 20 {
		if n == len(text) {
			continue
		}
		s := (strings.Repeat("\x00", 20) + "\x03")[21-n:]
		if got, ok := node.GetEntry(s); got != 0 || ok {
			t.Errorf("GetEntry(%x) is %d, %v", s, got, ok)
		}
	}
}

func TestAnyValues(t *testing.T) {
	random := rand.New(rand.NewSource(5))
	for range 20000 {
		links, size := random.Intn(api.MaxNumber+1), random.Intn(api.MaxNumber+1)
		i := node.Inode{Dir: random.Intn(2) == 0, Links: links, Size: size}
		checkGetInode(t, node.PutInode(i), i, true)
		if got, ok := node.GetEntry(node.PutEntry(size)); got != size || !ok {
			t.Errorf("GetEntry of %d is %d, %v", size, got, ok)
		}
		s := anyText(random, random.Intn(24))
		if i, ok := node.GetInode(s); ok && node.PutInode(i) != s {
			t.Errorf("GetInode(%x) is %v", s, i)
		}
		if number, ok := node.GetEntry(s); ok && node.PutEntry(number) != s {
			t.Errorf("GetEntry(%x) is %d", s, number)
		}
	}
}
