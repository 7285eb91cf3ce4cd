package fs

import (
	"slices"
	"strings"

	"chert/api"
	"chert/btree"
	"chert/journal"
	"chert/key"
	"chert/leb"
	"chert/lz"
	"chert/nand"
	"chert/node"
	"chert/ops"
	"chert/space"
	"chert/tree"
)

const firstGen = 1

// greatGen: nothing is promised of a file system whose generation is as great; strange blocks with greater ones must not lead to one.
const greatGen = 1 << 30

// attach: the volume on a chip, and how its blocks are shared out.
func attach(c *nand.Chip, g api.Geometry) (*leb.Volume, space.Plan, api.Errno) {
	plan, ok := space.Of(g)
	if !ok {
		return nil, space.Plan{}, api.ErrArg
	}
	v, err := leb.Attach(c, g)
	return v, plan, err
}

// nextGen: one that is greater than those of all blocks. A worn block that can't be erased may come back in a later Attach, and must not be taken for one of the current generation, or a later one.
func nextGen(v *leb.Volume) int {
	next := firstGen
	for _, id := range v.IDs() {
		if gen := id / genNumbers; id >= masters && gen < greatGen {
			next = max(next, gen+1)
		}
	}
	return next
}

// mount: the file system on a volume.
func mount(v *leb.Volume, plan space.Plan) (*FS, api.Errno) {
	l, agree, err := current(v, plan)
	if err != api.OK {
		return nil, err
	}
	s, err := load(v, l)
	if err != api.OK {
		return nil, err
	}
	f := &FS{volume: v, tree: s.tree, stock: stockOf(slices.Concat(s.tree.Pairs(), s.pieces))}
	f.begin(l)
	f.next = max(f.next, nextGen(v))
	hasLog := slices.ContainsFunc(v.IDs(), l.hasLogged)
	if err := f.removeOthers(); err != api.OK {
		return nil, err
	}
	if hasLog || s.changed || f.next > l.gen+1 {
		f.keep(s.pieces)
	} else if agree {
		return f, api.OK
	}
	// If worn blocks leave no room for a new generation, what was found can be read all the same.
	if err := f.rewrite(f.tree, nil); err != api.OK && err != api.ErrFull {
		return nil, err
	}
	return f, api.OK
}

// removeOthers takes the blocks away that are not of the current generation.
func (f *FS) removeOthers() api.Errno {
	return remove(f.volume, func(id int) bool { return !f.has(id) && !f.hasLogged(id) })
}

// keep holds the pieces, and leaves the generation as it is, till a new one is written.
func (f *FS) keep(pieces []api.Pair) {
	f.kept, f.log.ended = &btree.Tree{}, true
	for _, piece := range pieces {
		f.kept.Set(piece.Key, piece.Value)
	}
}

// current: the generation that the masters name, and whether they agree.
func current(v *leb.Volume, plan space.Plan) (layout, bool, api.Errno) {
	var valid []node.Label
	missing := api.ErrForm
	for id := range masters {
		label, err := masterOn(v, id)
		switch err {
		case api.OK:
			valid = append(valid, label)
		case api.ErrPower:
			return layout{}, false, err
		case api.ErrIO:
			missing = err
		}
	}
	if len(valid) == 0 {
		return layout{}, false, missing
	}
	newest := slices.MaxFunc(valid, func(a, b node.Label) int { return a.Gen - b.Gen })
	l, ok := layoutOf(plan, newest)
	if !ok {
		return layout{}, false, api.ErrForm
	}
	return l, len(valid) == masters && valid[0] == valid[1], api.OK
}

// masterOn: what a master says. ErrForm: it does not exist, or is none.
func masterOn(v *leb.Volume, id int) (node.Label, api.Errno) {
	if count, _ := v.Count(id); count != labelPages {
		return node.Label{}, api.ErrForm
	}
	payload, err := v.Read(id, 0)
	if err != api.OK {
		return node.Label{}, err
	}
	label, ok := node.GetLabel(payload)
	if !ok || label.Kind != masterKind {
		return node.Label{}, api.ErrForm
	}
	return label, api.OK
}

// state is what a generation holds, with its journal.
type state struct {
	tree    *tree.Tree
	pieces  []api.Pair
	changed bool // a piece is not as it lies on the chip
}

// load: the state of a generation.
func load(v *leb.Volume, l layout) (state, api.Errno) {
	s := scan{layout: l, volume: v}
	pairs := s.pairs()
	if s.err != api.OK {
		return state{}, s.err
	}
	groups, err := journal.Replay(v, l.gen)
	if err != api.OK {
		return state{}, err
	}
	return stateOf(ops.Apply(pairs, slices.Concat(groups...)))
}

// stateOf: pairs as a tree and pieces. ErrForm: they are not those of a file system.
func stateOf(pairs []api.Pair) (state, api.Errno) {
	var s state
	isPiece := func(p api.Pair) bool {
		k, _ := key.Decode(p.Key)
		return k.Kind == key.Data
	}
	t, err := tree.Build(slices.DeleteFunc(slices.Clone(pairs), isPiece))
	if err != api.OK {
		return state{}, err
	}
	s.tree = t
	for _, p := range pairs {
		if isPiece(p) && !s.take(p) {
			return state{}, api.ErrForm
		}
	}
	return s, api.OK
}

// take lays a piece behind the others; false if it is none.
func (s *state) take(p api.Pair) bool {
	k, _ := key.Decode(p.Key)
	inode, _ := s.tree.Inode(k.Number) // whose Size is 0 if it is no file's
	data, err := lz.Unpack(p.Value, api.Piece)
	left := inode.Size - k.Piece*api.Piece
	if left <= 0 || err != api.OK || data == "" {
		return false
	}
	// Bytes beyond the file's end, which Check leaves where they are, must not come to light when it grows.
	if len(data) > left && strings.Trim(data[left:], "\x00") != "" {
		s.changed = true
		data = strings.TrimRight(data[:left], "\x00")
		if data == "" {
			return true
		}
		p.Value = lz.Pack(data)
	}
	s.pieces = append(s.pieces, p)
	return true
}
