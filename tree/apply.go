package tree

import (
	"cmp"
	"slices"

	"chert/api"
	"chert/key"
	"chert/node"
	"chert/path"
)

// Apply: a change.
func (t *Tree) Apply(op Op) ([]key.Key, api.Errno) {
	if t.isNone() {
		return nil, api.ErrArg
	}
	keys, err := t.apply(op)
	slices.SortFunc(keys, byEncoding)
	return keys, err
}

// byEncoding: the order of the keys' encodings, without encoding them.
func byEncoding(a, b key.Key) int {
	return cmp.Or(cmp.Compare(a.Number, b.Number), cmp.Compare(a.Kind, b.Kind), cmp.Compare(a.Name, b.Name))
}

func (t *Tree) apply(op Op) ([]key.Key, api.Errno) {
	switch op.Kind {
	case Mkdir:
		return t.create(op.Path, true)
	case Create:
		return t.create(op.Path, false)
	case Link:
		return t.link(op.Path, op.To)
	case Unlink:
		return t.unlink(op.Path)
	case Rmdir:
		return t.rmdir(op.Path)
	case Rename:
		return t.rename(op.Path, op.To)
	case Resize:
		return t.resize(op.Path, op.Size)
	}
	return nil, api.ErrArg
}

func (t *Tree) create(at string, isDir bool) ([]key.Key, api.Errno) {
	p, err := t.newPlace(at)
	if err != api.OK {
		return nil, err
	}
	if t.last >= api.MaxNumber {
		return nil, api.ErrFull
	}
	t.last++
	return []key.Key{t.put(t.last, node.Inode{Dir: isDir, Links: 1}), t.enter(p, t.last)}, api.OK
}

func (t *Tree) link(at, to string) ([]key.Key, api.Errno) {
	number, err := t.findFile(at)
	if err != api.OK {
		return nil, err
	}
	inode := t.inodes[number]
	if inode.Links >= api.MaxLinks {
		return nil, api.ErrLinks
	}
	p, err := t.newPlace(to)
	if err != api.OK {
		return nil, err
	}
	inode.Links++
	return []key.Key{t.put(number, inode), t.enter(p, number)}, api.OK
}

func (t *Tree) unlink(at string) ([]key.Key, api.Errno) {
	number, err := t.findFile(at)
	if err != api.OK {
		return nil, err
	}
	p, _ := t.placeOf(at) // a file has been found there, so it is a place
	return []key.Key{t.lose(number), t.leave(p)}, api.OK
}

func (t *Tree) rmdir(at string) ([]key.Key, api.Errno) {
	number, err := t.find(at)
	if err != api.OK {
		return nil, err
	}
	if !t.inodes[number].Dir {
		return nil, api.ErrNotDir
	}
	p, err := t.placeOf(at) // the root has none, and ErrInvalid is what it gets
	if err != api.OK {
		return nil, err
	}
	if len(t.names[number]) > 0 {
		return nil, api.ErrNotEmpty
	}
	return []key.Key{t.lose(number), t.leave(p)}, api.OK
}

func (t *Tree) rename(at, to string) ([]key.Key, api.Errno) {
	number, err := t.find(at)
	if err != api.OK {
		return nil, err
	}
	from, err := t.placeOf(at)
	if err != api.OK {
		return nil, err
	}
	if t.inodes[number].Dir && to != at && path.Within(to, at) {
		return nil, api.ErrInside
	}
	p, err := t.placeOf(to)
	if err != api.OK {
		return nil, err
	}
	var keys []key.Key
	if old, exists := t.names[p.directory][p.name]; exists {
		if old == number {
			return nil, api.OK
		}
		if err := t.canReplace(old, number); err != api.OK {
			return nil, err
		}
		keys = append(keys, t.lose(old))
	}
	return append(keys, t.leave(from), t.enter(p, number)), api.OK
}

// canReplace: OK if what an old number is can give its name to another one.
func (t *Tree) canReplace(old, number int) api.Errno {
	oldIsDir, isDir := t.inodes[old].Dir, t.inodes[number].Dir
	switch {
	case oldIsDir && !isDir:
		return api.ErrIsDir
	case !oldIsDir && isDir:
		return api.ErrNotDir
	case len(t.names[old]) > 0:
		return api.ErrNotEmpty
	}
	return api.OK
}

func (t *Tree) resize(at string, size int) ([]key.Key, api.Errno) {
	number, err := t.findFile(at)
	if err != api.OK {
		return nil, err
	}
	if size < 0 {
		return nil, api.ErrInvalid
	}
	if size > api.MaxFile {
		return nil, api.ErrBig
	}
	inode := t.inodes[number]
	if inode.Size == size {
		return nil, api.OK
	}
	inode.Size = size
	return []key.Key{t.put(number, inode)}, api.OK
}

func (t *Tree) findFile(at string) (int, api.Errno) {
	number, err := t.find(at)
	if err != api.OK {
		return 0, err
	}
	if t.inodes[number].Dir {
		return 0, api.ErrIsDir
	}
	return number, api.OK
}
