package fsck

import (
	"slices"

	"chert/api"
	"chert/journal"
	"chert/leb"
	"chert/node"
	"chert/ops"
	"chert/pack"
)

// The numbers of logical blocks.
const (
	masters    = 2   // the first of all are theirs
	genNumbers = 256 // of each generation
	firstNodes = 102 // in a generation
	firstIndex = 202
)

const mostGens = 1 << 31

// The kinds of labels.
const (
	masterKind = 'S'
	nodesKind  = 'M'
)

const labelPages = 1 // of a block

// generation is one by its blocks of nodes.
type generation struct {
	gen, total int
}

func (g generation) nodesID(k int) int { return g.gen*genNumbers + firstNodes + k }

// isComplete: do its blocks of nodes have the labels that they have to have?
func (g generation) isComplete(labels map[int]node.Label) bool {
	for k := range g.total {
		if labels[g.nodesID(k)] != (node.Label{Kind: nodesKind, Gen: g.gen, Number: k, Total: g.total}) {
			return false
		}
	}
	return g.total > 0
}

// feeds: is a logical block one of those that its state comes from?
func (g generation) feeds(id int) bool {
	first, ok := journal.ID(g.gen, 0)
	isLogged := ok && id >= first && id < first+journal.Room()
	return isLogged || id >= g.nodesID(0) && id < g.nodesID(g.total)
}

// chart is what lies on a chip, as far as its blocks tell.
type chart struct {
	generation // the greatest that is complete
	naming
	next int // the generation that is to be written
}

// survey: ErrForm if no generation is complete.
func survey(v *leb.Volume) (chart, api.Errno) {
	labels, err := nodeLabels(v)
	if err != api.OK {
		return chart{}, err
	}
	n, err := namingOn(v)
	if err != api.OK {
		return chart{}, err
	}
	s := chart{generation: greatest(labels), naming: n}
	if s.total == 0 {
		return chart{}, api.ErrForm
	}
	s.next = 1 + max(greatestBlock(v), s.named)
	return s, api.OK
}

// nodeLabels: those of the blocks that can hold nodes, by the blocks' numbers. (All blocks are closed that an Attach finds.)
func nodeLabels(v *leb.Volume) (map[int]node.Label, api.Errno) {
	labels := map[int]node.Label{}
	for _, id := range v.IDs() {
		if k := id % genNumbers; k < firstNodes || k >= firstIndex {
			continue
		}
		label, err := labelOf(v, id)
		if err != api.OK {
			return nil, err
		}
		labels[id] = label
	}
	return labels, api.OK
}

// labelOf: a zero one if a block has none that can be read.
func labelOf(v *leb.Volume, id int) (node.Label, api.Errno) {
	payload, err := v.Read(id, 0)
	if err == api.ErrPower {
		return node.Label{}, err
	}
	label, _ := node.GetLabel(payload)
	return label, api.OK
}

// greatest: of the generations that are complete; one of no blocks if none is.
func greatest(labels map[int]node.Label) generation {
	best := generation{gen: -1}
	for id, label := range labels {
		one := generation{gen: id / genNumbers, total: label.Total}
		if one.gen > best.gen && one.isComplete(labels) {
			best = one
		}
	}
	return best
}

// greatestBlock: the greatest generation that blocks have the numbers of.
func greatestBlock(v *leb.Volume) int {
	most := 0
	for _, id := range v.IDs() {
		if gen := id / genNumbers; gen < mostGens {
			most = max(most, gen)
		}
	}
	return most
}

// naming is what a Mount goes by.
type naming struct {
	named  int // the generation that the masters name, the greater one if they don't agree; -1 if there is none
	master int // the first one that names it
}

func namingOn(v *leb.Volume) (naming, api.Errno) {
	best := naming{named: -1}
	for id := range masters {
		label, err := labelOf(v, id)
		if err != api.OK {
			return naming{}, err
		}
		pages, _ := v.Count(id)
		if pages == labelPages && label.Kind == masterKind && label.Gen > best.named {
			best = naming{label.Gen, id}
		}
	}
	return best, api.OK
}

// pairs: the state of the generation, and of how many groups its journal is.
func (g generation) pairs(v *leb.Volume) ([]api.Pair, int, api.Errno) {
	pairs, err := g.stored(v)
	if err != api.OK {
		return nil, 0, err
	}
	groups, err := journal.Replay(v, g.gen)
	if err != api.OK {
		return nil, 0, err
	}
	return ops.Apply(pairs, slices.Concat(groups...)), len(groups), api.OK
}

// stored: what the nodes hold, in the order in which they lie there.
func (g generation) stored(v *leb.Volume) ([]api.Pair, api.Errno) {
	var pairs []api.Pair
	for k := range g.total {
		count, _ := v.Count(g.nodesID(k))
		for n := labelPages; n < count; n++ {
			nodes, err := nodesOn(v, g.nodesID(k), n)
			if err != api.OK {
				return nil, err
			}
			for _, n := range nodes {
				pairs = append(pairs, api.Pair{Key: n.Key, Value: n.Value})
			}
		}
	}
	return pairs, api.OK
}

// nodesOn: those of a page. ErrIO: it can't be read, or holds something else.
func nodesOn(v *leb.Volume, id, n int) ([]node.Node, api.Errno) {
	payload, err := v.Read(id, n)
	if err != api.OK {
		return nil, err
	}
	nodes, _, err := pack.Unpack(payload)
	isGone := func(n node.Node) bool { return n.Gone }
	if err != api.OK || slices.ContainsFunc(nodes, isGone) {
		return nil, api.ErrIO
	}
	return nodes, api.OK
}
