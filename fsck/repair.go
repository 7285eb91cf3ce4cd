package fsck

import (
	"cmp"
	"slices"

	"chert/api"
	"chert/key"
	"chert/lz"
	"chert/tree"
)

// repaired: the pairs of a file system, of those that are found, in order; how many corrections there were.
func repaired(found []api.Pair) ([]api.Pair, int) {
	var pieces, others []api.Pair
	for _, pair := range found {
		if k, _ := key.Decode(pair.Key); k.Kind == key.Data {
			pieces = append(pieces, pair)
		} else {
			others = append(others, pair)
		}
	}
	t, wrong := tree.Repair(others)
	kept := t.Pairs()
	for _, piece := range pieces {
		if belongs(t, piece) {
			kept = append(kept, piece)
		} else {
			wrong++
		}
	}
	slices.SortFunc(kept, func(a, b api.Pair) int { return cmp.Compare(a.Key, b.Key) })
	return kept, wrong
}

// belongs: is a piece one of a file?
func belongs(t *tree.Tree, piece api.Pair) bool {
	k, _ := key.Decode(piece.Key)
	inode, _ := t.Inode(k.Number)                // whose Size is 0 if it is no file's
	data, _ := lz.Unpack(piece.Value, api.Piece) // which is empty beside an error
	return k.Piece*api.Piece < inode.Size && data != ""
}
