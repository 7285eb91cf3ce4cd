package fs

import (
	"slices"
	"strings"

	"chert/api"
	"chert/btree"
	"chert/index"
	"chert/journal"
	"chert/leb"
	"chert/node"
	"chert/pack"
)

// placed is a node and where it lies.
type placed struct {
	node.Node
	place journal.Place
}

// scan reads a generation as far as it can: what is lost in one place may not be needed, and in another something worse may be wrong.
type scan struct {
	layout
	volume *leb.Volume
	err    api.Errno // of those that were met, the one that the chapter mentions first
}

func (s *scan) fail(err api.Errno) {
	if s.err == api.OK || s.err == api.ErrIO || err == api.ErrPower {
		s.err = err
	}
}

// page: a page of a block; false if it can't be read.
func (s *scan) page(id, n int) (string, bool) {
	payload, err := s.volume.Read(id, n)
	if err != api.OK {
		s.fail(err)
	}
	return payload, err == api.OK
}

// block: the pages of the k-th block of a kind, which has at least so many; those that can't be read are empty.
func (s *scan) block(kind byte, k, id, least int) []string {
	count, _ := s.volume.Count(id)
	if count < labelPages+least {
		s.fail(api.ErrForm)
		return nil
	}
	payload, ok := s.page(id, 0)
	if label, _ := node.GetLabel(payload); ok && label != s.label(kind, k) {
		s.fail(api.ErrForm)
	}
	pages := make([]string, count-labelPages)
	for i := range pages {
		pages[i], _ = s.page(id, firstPage+i)
	}
	return pages
}

// nodes: those that can be read.
func (s *scan) nodes() []placed {
	var all []placed
	for k := range s.nodeBlocks {
		id := s.nodeID(k)
		for i, page := range s.block(nodesKind, k, id, 0) {
			nodes, at, err := pack.Unpack(page)
			if err != api.OK {
				s.fail(api.ErrForm)
			}
			for j, n := range nodes {
				all = append(all, placed{n, journal.Place{ID: id, Page: firstPage + i, At: at[j]}})
			}
		}
	}
	return all
}

// pairs: what the nodes hold, if they and the index are as they have to be.
func (s *scan) pairs() []api.Pair {
	var pairs []api.Pair
	var locations btree.Tree
	for _, n := range s.nodes() {
		if n.Gone || n.Last {
			s.fail(api.ErrForm)
		}
		pairs = append(pairs, api.Pair{Key: n.Key, Value: n.Value})
		locations.Set(n.Key, locationOf(n.place))
	}
	if !ascend(pairs) {
		s.fail(api.ErrForm)
	}
	s.checkIndex(&locations)
	return pairs
}

// checkIndex: is the index that of these locations?
func (s *scan) checkIndex(locations *btree.Tree) {
	var pages []string
	for k := range s.indexBlocks() {
		left := s.indexPages - k*s.plan.Room
		pages = append(pages, s.block(indexKind, k, s.indexID(k), min(left, s.plan.Room))...)
	}
	if s.err != api.OK {
		return // an index of some of the nodes is not the one to compare with
	}
	want, err := index.Store(locations, s.plan.Bytes)
	same := func(stored, page string) bool {
		return strings.TrimRight(stored, "\x00") == strings.TrimRight(page, "\x00")
	}
	if err != api.OK || len(want) != s.indexPages || !slices.EqualFunc(pages, want, same) {
		s.fail(api.ErrForm)
	}
}
