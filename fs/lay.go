package fs

import (
	"slices"

	"chert/api"
	"chert/btree"
	"chert/index"
	"chert/leb"
	"chert/node"
	"chert/pack"
	"chert/space"
	"chert/wear"
)

// image is a generation as the pages that its blocks hold behind their labels.
type image struct {
	layout
	nodes, index []string
}

// draw: the image of pairs. ErrArg: a node would be too long; ErrFull: they don't fit.
func draw(plan space.Plan, gen int, pairs []api.Pair) (image, api.Errno) {
	m := image{layout: layout{plan: plan, gen: gen}}
	var keys, bytes []int
	var locations btree.Tree
	packer := pack.New(plan.Bytes)
	for _, pair := range pairs {
		text, ok := node.Encode(node.Node{Key: pair.Key, Value: pair.Value})
		if !ok || len(text) > plan.Bytes {
			return image{}, api.ErrArg
		}
		if page, full, _ := packer.Add(text); full {
			m.nodes = append(m.nodes, page)
		}
		held, pages := packer.Held()
		place := m.nodePlace(pages)
		place.At = held - len(text)
		locations.Set(pair.Key, locationOf(place))
		keys, bytes = append(keys, len(pair.Key)), append(bytes, len(text))
	}
	if page, any := packer.Flush(); any {
		m.nodes = append(m.nodes, page)
	}
	if !plan.Fits(keys, bytes) {
		return image{}, api.ErrFull
	}
	m.index, _ = index.Store(&locations, plan.Bytes) // which knows no error for what fits
	m.nodeBlocks, m.indexPages = m.blocksOf(len(m.nodes)), len(m.index)
	return m, api.OK
}

// lay makes the image the current generation, or leaves the volume with the blocks that it had.
func (m image) lay(v *leb.Volume) api.Errno {
	if !m.hasRoom(v) {
		return api.ErrFull
	}
	before := v.IDs()
	err := m.write(v)
	if err == api.OK {
		return m.settle(v)
	}
	isNew := func(id int) bool { return !slices.Contains(before, id) }
	if remove(v, isNew) == api.ErrPower {
		return api.ErrPower
	}
	return err
}

// hasRoom: are there blocks enough, as far as the volume knows? To find it out by writing would only wear on them.
func (m image) hasRoom(v *leb.Volume) bool {
	need := m.nodeBlocks + m.indexBlocks() + 1 // for the first master, whose old block is free only then
	for _, id := range v.IDs() {
		if id >= masters && m.has(id) {
			need-- // its old block is free once the new one is written
		}
	}
	return wear.Spare(v.Blocks()) >= need
}

// write ends with the first master: from then on the generation is the current one.
func (m image) write(v *leb.Volume) api.Errno {
	if err := m.writeBlocks(v, nodesKind, m.nodeID, m.nodes); err != api.OK {
		return err
	}
	if err := m.writeBlocks(v, indexKind, m.indexID, m.index); err != api.OK {
		return err
	}
	// A journal that this generation had before would be applied to these nodes.
	isOld := func(id int) bool { return id/genNumbers == m.gen && !m.has(id) }
	if err := remove(v, isOld); err != api.OK {
		return err
	}
	return m.writeMaster(v, 0)
}

// settle: what is left to do once the generation is the current one.
func (m image) settle(v *leb.Volume) api.Errno {
	second := m.writeMaster(v, 1)
	if second == api.ErrPower {
		return second
	}
	isOther := func(id int) bool { return !m.has(id) }
	if err := remove(v, isOther); err != api.OK {
		return err
	}
	// If there was no block for the second master, there may be one now; if not, the first one is enough, and Mount finds that they don't agree.
	if second != api.OK && m.writeMaster(v, 1) == api.ErrPower {
		return api.ErrPower
	}
	return api.OK
}

// writeBlocks writes the pages of a kind, with their labels.
func (m image) writeBlocks(v *leb.Volume, kind byte, id func(int) int, pages []string) api.Errno {
	for k := range m.blocksOf(len(pages)) {
		label, _ := node.PutLabel(m.label(kind, k))
		first := k * m.plan.Room
		payloads := append([]string{label}, pages[first:min(first+m.plan.Room, len(pages))]...)
		if err := v.Change(id(k), false, payloads...); err != api.OK {
			return err
		}
	}
	return api.OK
}

func (m image) writeMaster(v *leb.Volume, id int) api.Errno {
	label, _ := node.PutLabel(m.master())
	return v.Change(id, true, label)
}

// remove takes logical blocks away.
func remove(v *leb.Volume, unwanted func(id int) bool) api.Errno {
	for _, id := range v.IDs() {
		if !unwanted(id) {
			continue
		}
		if err := v.Unmap(id); err != api.OK {
			return err
		}
	}
	return api.OK
}

// ascend: are the keys in ascending order, each of them once?
func ascend(pairs []api.Pair) bool {
	for i := 1; i < len(pairs); i++ {
		if pairs[i].Key <= pairs[i-1].Key {
			return false
		}
	}
	return true
}
