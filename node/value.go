package node

import "chert/numbers"

const (
	dirBytes   = 1
	inodeBytes = dirBytes + 2*numberBytes
)

// Inode is a value of a file or a directory.
type Inode struct {
	Dir         bool
	Links, Size int
}

// PutInode: an inode as a value.
func PutInode(i Inode) string {
	dir := 0
	if i.Dir {
		dir = 1
	}
	return numbers.Join(dirBytes, dir) + numbers.Join(numberBytes, i.Links, i.Size)
}

// GetInode: the inode of a value.
func GetInode(s string) (Inode, bool) {
	if len(s) != inodeBytes || s[0] > 1 {
		return Inode{}, false
	}
	n := numbers.Split(numberBytes, s[dirBytes:])
	if !numbers.Valid(n...) {
		return Inode{}, false
	}
	return Inode{Dir: s[0] == 1, Links: n[0], Size: n[1]}, true
}

// PutEntry: a name's value: the number of what it names.
func PutEntry(number int) string { return numbers.Join(numberBytes, number) }

// GetEntry: the number of a name's value.
func GetEntry(s string) (int, bool) {
	if len(s) != numberBytes || !numbers.Valid(numbers.Of(s)) {
		return 0, false
	}
	return numbers.Of(s), true
}
