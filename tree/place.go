package tree

import (
	"strings"

	"chert/api"
	"chert/key"
	"chert/node"
	"chert/path"
)

// place is where a name stands, or could stand.
type place struct {
	directory int
	name      string
}

// key: of the entry at this place.
func (p place) key() key.Key {
	return key.Key{Number: p.directory, Kind: key.Entry, Name: strings.Clone(p.name)}
}

func inodeKey(number int) key.Key { return key.Key{Number: number, Kind: key.Inode} }

// placeOf: the place that a path tells, whether there is a name or not; the root has none.
func (t *Tree) placeOf(at string) (place, api.Errno) {
	above, name, err := path.Parent(at)
	if err != api.OK {
		return place{}, err
	}
	directory, err := t.find(above)
	if err != api.OK {
		return place{}, err
	}
	if !t.inodes[directory].Dir {
		return place{}, api.ErrNotDir
	}
	return place{directory, name}, api.OK
}

// newPlace: the place that a path tells for a new name.
func (t *Tree) newPlace(at string) (place, api.Errno) {
	if at == rootPath {
		return place{}, api.ErrExists
	}
	p, err := t.placeOf(at)
	if err != api.OK {
		return place{}, err
	}
	if _, exists := t.names[p.directory][p.name]; exists {
		return place{}, api.ErrExists
	}
	return p, api.OK
}

// enter: what stands at a place is this number from now on.
func (t *Tree) enter(p place, number int) key.Key {
	if t.names[p.directory] == nil {
		t.names[p.directory] = map[string]int{}
	}
	t.names[p.directory][p.name] = number
	return p.key()
}

// leave: nothing stands at a place any more.
func (t *Tree) leave(p place) key.Key {
	delete(t.names[p.directory], p.name)
	return p.key()
}

// put: a number has this inode from now on.
func (t *Tree) put(number int, inode node.Inode) key.Key {
	t.inodes[number] = inode
	return inodeKey(number)
}

// lose: a number has one name less; with the last one it is gone.
func (t *Tree) lose(number int) key.Key {
	inode := t.inodes[number]
	inode.Links--
	if inode.Links > 0 {
		return t.put(number, inode)
	}
	delete(t.inodes, number)
	delete(t.names, number)
	return inodeKey(number)
}
