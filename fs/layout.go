package fs

import (
	"chert/journal"
	"chert/node"
	"chert/numbers"
	"chert/space"
)

// The numbers of logical blocks.
const (
	masters    = 2   // the first of all are theirs
	genNumbers = 256 // of each generation
	firstNodes = 102 // in a generation
	firstIndex = 202
	mostNodes  = firstIndex - firstNodes
	mostIndex  = genNumbers - firstIndex
)

const mostGens = 1 << 31

// The kinds of labels.
const (
	masterKind = 'S'
	nodesKind  = 'M'
	indexKind  = 'I'
)

const (
	labelPages = 1 // of a block
	firstPage  = labelPages
)

// How many bytes the parts of a location have, which is an index's value.
const (
	idBytes       = 8
	pageBytes     = 2
	locationBytes = idBytes + 2*pageBytes
)

// layout is where a generation lies.
type layout struct {
	plan       space.Plan
	gen        int
	nodeBlocks int
	indexPages int
}

// layoutOf: what a master names; false if there can be no such generation.
func layoutOf(plan space.Plan, master node.Label) (layout, bool) {
	l := layout{plan: plan, gen: master.Gen, nodeBlocks: master.Total, indexPages: master.Number}
	return l, l.gen < mostGens && l.nodeBlocks <= mostNodes && l.indexPages <= mostIndex*plan.Room
}

// master: the label that names this generation.
func (l layout) master() node.Label {
	return node.Label{Kind: masterKind, Gen: l.gen, Number: l.indexPages, Total: l.nodeBlocks}
}

// label: that of the k-th block of a kind.
func (l layout) label(kind byte, k int) node.Label {
	total := l.nodeBlocks
	if kind == indexKind {
		total = l.indexBlocks()
	}
	return node.Label{Kind: kind, Gen: l.gen, Number: k, Total: total}
}

func (l layout) nodeID(k int) int { return l.gen*genNumbers + firstNodes + k }

func (l layout) indexID(k int) int { return l.gen*genNumbers + firstIndex + k }

func (l layout) indexBlocks() int { return l.blocksOf(l.indexPages) }

// blocksOf: how many blocks so many pages take.
func (l layout) blocksOf(pages int) int { return (pages + l.plan.Room - 1) / l.plan.Room }

// nodePlace: where the n-th page of nodes begins.
func (l layout) nodePlace(n int) journal.Place {
	return journal.Place{ID: l.nodeID(n / l.plan.Room), Page: firstPage + n%l.plan.Room}
}

// indexPlace: where the n-th page of the index begins.
func (l layout) indexPlace(n int) journal.Place {
	return journal.Place{ID: l.indexID(n / l.plan.Room), Page: firstPage + n%l.plan.Room}
}

// has: is a logical block a master, or one of this generation's nodes or index?
func (l layout) has(id int) bool {
	k := id - l.gen*genNumbers
	return id < masters ||
		k >= firstNodes && k < firstNodes+l.nodeBlocks ||
		k >= firstIndex && k < firstIndex+l.indexBlocks()
}

// hasLogged: is a logical block one of this generation's journal?
func (l layout) hasLogged(id int) bool {
	first, ok := journal.ID(l.gen, 0)
	return ok && id >= first && id < first+journal.Room()
}

// locationOf: a place as an index's value.
func locationOf(p journal.Place) string {
	return numbers.Join(idBytes, p.ID) + numbers.Join(pageBytes, p.Page, p.At)
}

// placeOf: the place that an index's value tells; false if it tells none.
func placeOf(location string) (journal.Place, bool) {
	if len(location) != locationBytes {
		return journal.Place{}, false
	}
	in := numbers.Split(pageBytes, location[idBytes:])
	return journal.Place{ID: numbers.Of(location[:idBytes]), Page: in[0], At: in[1]}, true
}
