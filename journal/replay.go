package journal

import (
	"chert/api"
	"chert/leb"
	"chert/node"
	"chert/pack"
)

// replay reads the journal of a generation.
type replay struct {
	volume *leb.Volume
	gen    int
	groups [][]node.Node
	open   []node.Node // of the group whose end is still to come
}

// Replay: the groups of a generation's journal that last.
func Replay(v *leb.Volume, gen int) ([][]node.Node, api.Errno) {
	if v == nil || !isGen(gen) {
		return nil, api.ErrArg
	}
	r := replay{volume: v, gen: gen}
	if err := r.read(); err != api.OK {
		return nil, err
	}
	return r.groups, api.OK
}

// read reads the pages in their order, up to where the journal ends.
func (r *replay) read() api.Errno {
	counts := r.counts()
	for k, pages := range counts {
		for n := range pages {
			err := r.page(k, n)
			if err == api.ErrIO && k == len(counts)-1 && n == pages-1 {
				return api.OK // the power may have gone off while it was written
			}
			if err == api.ErrForm {
				return api.OK
			}
			if err != api.OK {
				return err
			}
		}
	}
	return api.OK
}

// counts: the pages of each of the journal's blocks, as far as they exist.
func (r *replay) counts() []int {
	pages := map[int]int{}
	for _, id := range r.volume.IDs() {
		pages[id], _ = r.volume.Count(id)
	}
	var counts []int
	for k := range room {
		id, _ := ID(r.gen, k)
		n, exists := pages[id]
		if !exists {
			break
		}
		counts = append(counts, n)
	}
	return counts
}

// page takes the nodes of a page. ErrForm: the block is not the journal's; ErrIO: the page is lost.
func (r *replay) page(k, n int) api.Errno {
	id, _ := ID(r.gen, k)
	payload, err := r.volume.Read(id, n)
	if err != api.OK {
		return err
	}
	if n == 0 {
		if l, _ := node.GetLabel(payload); l != labelOf(r.gen, k) {
			return api.ErrForm
		}
		return api.OK
	}
	nodes, _, err := pack.Unpack(payload)
	if err != api.OK {
		return api.ErrIO
	}
	for _, n := range nodes {
		r.take(n)
	}
	return api.OK
}

// take lays a node behind those of its group.
func (r *replay) take(n node.Node) {
	r.open = append(r.open, n)
	if n.Last {
		r.groups = append(r.groups, r.open)
		r.open = nil
	}
}
