package fs

import (
	"strings"

	"chert/api"
	"chert/btree"
	"chert/key"
	"chert/ops"
	"chert/tree"
)

// apply makes a call that changes the tree alone.
func (f *FS) apply(op tree.Op) api.Errno {
	return f.call(func() api.Errno {
		t := f.tree.Clone()
		changes, err := ops.Of(t, op)
		if err != api.OK {
			return err
		}
		return f.change(t, changes)
	})
}

func (f *FS) write(path string, offset int, data string) api.Errno {
	info, err := f.file(path)
	if err != api.OK {
		return err
	}
	// What is wrong with the write itself is told before a piece that can't be read.
	if _, _, err := ops.Write(info.Number, info.Size, offset, data, nil); err != api.OK {
		return err
	}
	first, end := ops.Span(offset, len(data))
	old, err := f.pieces(info.Number, first, end)
	if err != api.OK {
		return err
	}
	pieces, size, _ := ops.Write(info.Number, info.Size, offset, data, old)
	t := f.tree.Clone()
	changes, err := ops.Of(t, tree.Op{Kind: tree.Resize, Path: path, Size: size})
	if err != api.OK {
		return err
	}
	return f.change(t, append(changes, pieces...))
}

func (f *FS) truncate(path string, size int) api.Errno {
	t := f.tree.Clone()
	changes, err := ops.Of(t, tree.Op{Kind: tree.Resize, Path: path, Size: size})
	if err != api.OK {
		return err
	}
	info, _ := f.stat(path)
	first, end := 0, 0
	if size < info.Size && size%api.Piece > 0 {
		first, end = ops.Span(size, 1)
	}
	last, err := f.pieces(info.Number, first, end)
	if err != api.OK {
		return err
	}
	for _, c := range ops.Cut(info.Number, info.Size, size, strings.Join(last, "")) {
		// The pieces behind the end go with the inode.
		if c.Key.Piece*api.Piece < size {
			changes = append(changes, c)
		}
	}
	return f.change(t, changes)
}

// change makes changes, after which the tree is another one, or none of them.
func (f *FS) change(t *tree.Tree, changes []ops.Change) api.Errno {
	if len(changes) == 0 {
		return api.OK
	}
	undo := f.stock.put(f.stock.itemsOf(changes))
	if err := f.store(t, changes); err != api.OK {
		f.stock.put(undo)
		return err
	}
	f.tree = t
	return api.OK
}

// store writes changes to the chip, or holds them for a Sync to write.
func (f *FS) store(t *tree.Tree, changes []ops.Change) api.Errno {
	if !f.stock.fits(f.plan) {
		return api.ErrNoSpace
	}
	err := f.log.append(changes)
	if err == api.ErrFull {
		err = f.rewrite(t, changes)
	}
	if err == api.ErrFull {
		return api.ErrNoSpace
	}
	return err
}

// rewrite writes everything as a new generation, with changes that are nowhere yet. ErrFull: there are not blocks enough.
func (f *FS) rewrite(t *tree.Tree, changes []ops.Change) api.Errno {
	if f.next >= mostGens {
		return api.ErrFull
	}
	pairs, err := f.pairs(t, changes)
	if err != api.OK {
		return err
	}
	m, err := draw(f.plan, f.next, pairs)
	if err != api.OK {
		return err
	}
	if err := m.lay(f.volume); err != api.OK {
		return err
	}
	f.begin(m.layout)
	return api.OK
}

// begin: a generation is the current one, and has no journal yet.
func (f *FS) begin(l layout) {
	f.layout, f.next = l, l.gen+1
	f.log, f.kept = newLog(f.volume, l), nil
}

// pairs: those of the stock. ErrIO: one can't be read.
func (f *FS) pairs(t *tree.Tree, changes []ops.Change) ([]api.Pair, api.Errno) {
	var all btree.Tree
	if err := f.gather(&all); err != api.OK {
		return nil, err
	}
	for _, c := range changes {
		text, _ := key.Encode(c.Key)
		all.Set(text, c.Text)
	}
	for _, pair := range t.Pairs() {
		all.Set(pair.Key, pair.Value)
	}
	var pairs []api.Pair
	for _, text := range f.stock.keys {
		value, ok := all.Get(text)
		if !ok {
			return nil, api.ErrIO
		}
		pairs = append(pairs, api.Pair{Key: text, Value: value})
	}
	return pairs, api.OK
}

// gather lays the pieces that can be read into a tree, and maybe more than those.
func (f *FS) gather(all *btree.Tree) api.Errno {
	if f.kept != nil {
		for text, value := range f.kept.Range("", "") {
			all.Set(text, value)
		}
		return api.OK
	}
	s := scan{layout: f.layout, volume: f.volume}
	for _, n := range s.nodes() {
		all.Set(n.Key, n.Value)
	}
	if s.err == api.ErrPower {
		return s.err
	}
	for _, text := range f.stock.keys {
		place, ok := f.log.places[text]
		if !ok {
			continue
		}
		n, err := f.log.journal.Read(place)
		if err == api.ErrPower {
			return err
		}
		all.Set(text, n.Value)
		if err != api.OK {
			all.Delete(text) // and not what it was before
		}
	}
	return api.OK
}
