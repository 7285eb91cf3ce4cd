package ops

import (
	"chert/api"
	"chert/btree"
	"chert/key"
	"chert/node"
)

// Apply: changes laid into pairs, as the journal's nodes do it.
func Apply(pairs []api.Pair, group []node.Node) []api.Pair {
	var t btree.Tree
	for _, pair := range pairs {
		t.Set(pair.Key, pair.Value)
	}
	for _, n := range group {
		applyNode(&t, n)
	}
	var after []api.Pair
	for text, value := range t.Range("", "") {
		after = append(after, api.Pair{Key: text, Value: value})
	}
	return after
}

func applyNode(t *btree.Tree, n node.Node) {
	if n.Gone {
		t.Delete(n.Key)
	} else {
		t.Set(n.Key, n.Value)
	}
	k, ok := key.Decode(n.Key)
	if !ok || k.Kind != key.Inode {
		return
	}
	if n.Gone {
		dropPieces(t, k.Number, 0)
	} else if inode, ok := node.GetInode(n.Value); ok {
		dropPieces(t, k.Number, inode.Size)
	}
}

// dropPieces: no piece of a file has a value any more that begins at this byte or later.
func dropPieces(t *btree.Tree, number, from int) {
	first, end, _ := key.Range(number, key.Data)
	var gone []string
	for text := range t.Range(first, end) {
		// A text that is no key can lie between those of pieces.
		if k, ok := key.Decode(text); ok && k.Piece*api.Piece >= from {
			gone = append(gone, text)
		}
	}
	for _, text := range gone {
		t.Delete(text)
	}
}
