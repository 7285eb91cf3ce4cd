package fs

import (
	"slices"

	"chert/api"
	"chert/key"
	"chert/node"
	"chert/ops"
	"chert/space"
)

// stock is the nodes that live.
type stock struct {
	keys  []string       // in order
	sizes map[string]int // by the keys: the bytes of each node as it is stored
}

// item is the size that the node of a key has; 0 if there is none.
type item struct {
	key  string
	size int
}

func stockOf(pairs []api.Pair) stock {
	s := stock{sizes: map[string]int{}}
	for _, pair := range pairs {
		s.set(item{pair.Key, sizeOf(pair.Key, pair.Value)})
	}
	return s
}

// sizeOf: the bytes of a node as it is stored.
func sizeOf(text, value string) int {
	encoded, _ := node.Encode(node.Node{Key: text, Value: value})
	return len(encoded)
}

func (s *stock) set(i item) {
	at, exists := slices.BinarySearch(s.keys, i.key)
	switch {
	case i.size > 0 && !exists:
		s.keys = slices.Insert(s.keys, at, i.key)
	case i.size == 0 && exists:
		s.keys = slices.Delete(s.keys, at, at+1)
	}
	if i.size > 0 {
		s.sizes[i.key] = i.size
	} else {
		delete(s.sizes, i.key)
	}
}

// put sets all items; what has to be put to undo it.
func (s *stock) put(items []item) []item {
	var undo []item
	for _, i := range items {
		undo = append(undo, item{i.key, s.sizes[i.key]})
		s.set(i)
	}
	slices.Reverse(undo)
	return undo
}

// fits: do all nodes fit?
func (s *stock) fits(plan space.Plan) bool {
	var keys, sizes []int
	for _, text := range s.keys {
		keys, sizes = append(keys, len(text)), append(sizes, s.sizes[text])
	}
	return plan.Fits(keys, sizes)
}

// itemsOf: what changes do to the stock. An inode takes the pieces with it that are not in its file any more, as layer 20's Apply does.
func (s *stock) itemsOf(changes []ops.Change) []item {
	var items []item
	for _, c := range changes {
		text, _ := key.Encode(c.Key)
		if c.Gone {
			items = append(items, item{key: text})
		} else {
			items = append(items, item{text, sizeOf(text, c.Text)})
		}
		if c.Key.Kind == key.Inode {
			inode, _ := node.GetInode(c.Text) // whose Size is 0 if the file is gone
			for _, piece := range s.piecesFrom(c.Key.Number, inode.Size) {
				items = append(items, item{key: piece})
			}
		}
	}
	return items
}

// piecesFrom: the keys of the pieces of a file that begin at this byte or later.
func (s *stock) piecesFrom(number, from int) []string {
	text, _ := key.Encode(key.Key{Number: number, Kind: key.Data, Piece: (from + api.Piece - 1) / api.Piece})
	_, behind, _ := key.Range(number, key.Data)
	first, _ := slices.BinarySearch(s.keys, text)
	end, _ := slices.BinarySearch(s.keys, behind)
	return s.keys[first:end]
}
