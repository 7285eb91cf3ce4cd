package tree_test

import (
	"maps"
	"slices"
	"strings"

	"chert/api"
	"chert/key"
	"chert/node"
	"chert/path"
	"chert/tree"
)

// entry is a name in a directory.
type entry struct {
	in   int
	name string
}

// model is the tree by the chapter's words, copied for each change.
type model struct {
	inodes map[int]node.Inode
	names  map[entry]int
	last   int
}

func newModel() model {
	return model{inodes: map[int]node.Inode{1: {Dir: true, Links: 1}}, names: map[entry]int{}, last: 1}
}

func (m model) copy() model {
	return model{inodes: maps.Clone(m.inodes), names: maps.Clone(m.names), last: m.last}
}

// values: the value of each encoded key.
func (m model) values() map[string]string {
	values := map[string]string{}
	for number, inode := range m.inodes {
		values[encoded(key.Key{Number: number, Kind: key.Inode})] = node.PutInode(inode)
	}
	for e, number := range m.names {
		values[encoded(key.Key{Number: e.in, Kind: key.Entry, Name: e.name})] = node.PutEntry(number)
	}
	return values
}

func encoded(k key.Key) string {
	text, ok := key.Encode(k)
	if !ok {
		panic("a key that is not valid")
	}
	return text
}

func (m model) pairs() []api.Pair {
	var pairs []api.Pair
	values := m.values()
	for _, text := range slices.Sorted(maps.Keys(values)) {
		pairs = append(pairs, api.Pair{Key: text, Value: values[text]})
	}
	return pairs
}

// changed: the keys whose values are not alike in two models, in the order of the encodings.
func changed(before, after model) []key.Key {
	old, now := before.values(), after.values()
	texts := map[string]int{}
	for text, value := range old {
		if v, ok := now[text]; !ok || v != value {
			texts[text]++
		}
	}
	for text := range now {
		if _, ok := old[text]; !ok {
			texts[text]++
		}
	}
	var keys []key.Key
	for _, text := range slices.Sorted(maps.Keys(texts)) {
		k, _ := key.Decode(text)
		keys = append(keys, k)
	}
	return keys
}

func (m model) find(at string) (int, api.Errno) {
	parts, err := path.Split(at)
	if err != api.OK {
		return 0, err
	}
	number := 1
	for i, part := range parts {
		below, ok := m.names[entry{number, part}]
		if !ok {
			return 0, api.ErrMissing
		}
		if i < len(parts)-1 && !m.inodes[below].Dir {
			return 0, api.ErrNotDir
		}
		number = below
	}
	return number, api.OK
}

func (m model) list(at string) ([]string, api.Errno) {
	number, err := m.find(at)
	if err != api.OK {
		return nil, err
	}
	if !m.inodes[number].Dir {
		return nil, api.ErrNotDir
	}
	var names []string
	for e := range m.names {
		if e.in == number {
			names = append(names, e.name)
		}
	}
	slices.Sort(names)
	return names, api.OK
}

// place: where a new name goes.
func (m model) place(at string) (entry, api.Errno) {
	if at == "/" {
		return entry{}, api.ErrExists
	}
	e, err := m.above(at)
	if err != api.OK {
		return entry{}, err
	}
	if _, ok := m.names[e]; ok {
		return entry{}, api.ErrExists
	}
	return e, api.OK
}

// above: the directory above a path that is not the root's, and the last part.
func (m model) above(at string) (entry, api.Errno) {
	if _, err := path.Split(at); err != api.OK {
		return entry{}, err
	}
	cut := strings.LastIndex(at, "/")
	directory, err := m.find(at[:max(cut, 1)])
	if err != api.OK {
		return entry{}, err
	}
	if !m.inodes[directory].Dir {
		return entry{}, api.ErrNotDir
	}
	return entry{directory, at[cut+1:]}, api.OK
}

// apply: the model behind an op, the keys that changed, and the error.
func (m model) apply(op tree.Op) (model, []key.Key, api.Errno) {
	after := m.copy()
	if err := after.change(op); err != api.OK {
		return m, nil, err
	}
	return after, changed(m, after), api.OK
}

// change: may leave anything behind it beside an error.
func (m *model) change(op tree.Op) api.Errno {
	if op.Kind == 1 || op.Kind == 2 {
		return m.create(op.Path, op.Kind == 1)
	}
	if op.Kind < 1 || op.Kind > 7 {
		return api.ErrArg
	}
	number, err := m.find(op.Path)
	if err != api.OK {
		return err
	}
	isDir := m.inodes[number].Dir
	switch {
	case op.Kind == 6:
		return m.rename(number, op.Path, op.To)
	case op.Kind == 5 && !isDir:
		return api.ErrNotDir
	case op.Kind != 5 && isDir:
		return api.ErrIsDir
	}
	switch op.Kind {
	case 3:
		return m.link(number, op.To)
	case 4:
		return m.remove(op.Path)
	case 5:
		if number == 1 {
			return api.ErrInvalid
		}
		if names, _ := m.list(op.Path); len(names) > 0 {
			return api.ErrNotEmpty
		}
		return m.remove(op.Path)
	}
	if op.Size < 0 {
		return api.ErrInvalid
	}
	if op.Size > 8192 {
		return api.ErrBig
	}
	m.inodes[number] = node.Inode{Links: m.inodes[number].Links, Size: op.Size}
	return api.OK
}

func (m *model) create(at string, isDir bool) api.Errno {
	e, err := m.place(at)
	if err != api.OK {
		return err
	}
	if m.last == 1<<40 {
		return api.ErrFull
	}
	m.last++
	m.names[e] = m.last
	m.inodes[m.last] = node.Inode{Dir: isDir, Links: 1}
	return api.OK
}

func (m *model) link(number int, to string) api.Errno {
	if m.inodes[number].Links == 100 {
		return api.ErrLinks
	}
	e, err := m.place(to)
	if err != api.OK {
		return err
	}
	m.names[e] = number
	m.count()
	return api.OK
}

// remove: the name at a path, and what has no name then.
func (m *model) remove(at string) api.Errno {
	e, err := m.above(at)
	if err != api.OK {
		return err
	}
	delete(m.names, e)
	m.count()
	return api.OK
}

// count: sets the Links of all files, and removes what has no name.
func (m *model) count() {
	names := map[int]int{}
	for _, number := range m.names {
		names[number]++
	}
	for _, number := range slices.Collect(maps.Keys(m.inodes)) {
		inode := m.inodes[number]
		if number == 1 {
			continue
		}
		inode.Links = names[number]
		m.inodes[number] = inode
		if names[number] == 0 {
			delete(m.inodes, number)
		}
	}
}

func (m *model) rename(number int, at, to string) api.Errno {
	if number == 1 {
		return api.ErrInvalid
	}
	if _, err := path.Split(to); err != api.OK {
		return err
	}
	if to == "/" {
		return api.ErrInvalid
	}
	isDir := m.inodes[number].Dir
	if isDir && strings.HasPrefix(to, at+"/") {
		return api.ErrInside
	}
	e, err := m.above(to)
	if err != api.OK {
		return err
	}
	if old, ok := m.names[e]; ok {
		if old == number {
			return api.OK
		}
		oldIsDir := m.inodes[old].Dir
		if oldIsDir && !isDir {
			return api.ErrIsDir
		}
		if !oldIsDir && isDir {
			return api.ErrNotDir
		}
		if names, _ := m.list(to); len(names) > 0 {
			return api.ErrNotEmpty
		}
	}
	from, _ := m.above(at)
	delete(m.names, from)
	m.names[e] = number
	m.count()
	return api.OK
}
