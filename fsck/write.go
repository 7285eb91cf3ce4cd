package fsck

import (
	"slices"

	"chert/api"
	"chert/leb"
	"chert/node"
	"chert/space"
	"chert/wear"
)

// needOf: how many free blocks a Lay of pairs needs; more than any chip has if they don't fit.
func needOf(plan space.Plan, pairs []api.Pair) int {
	var keys, bytes []int
	for _, pair := range pairs {
		text, _ := node.Encode(node.Node{Key: pair.Key, Value: pair.Value})
		keys, bytes = append(keys, len(pair.Key)), append(bytes, len(text))
	}
	if !plan.Fits(keys, bytes) {
		return api.MaxBlocks + 1
	}
	nodes, index, _ := plan.Need(keys, bytes)
	return nodes + index + 1 // for the first master
}

// write lays what was found. What can be done without is removed only as far as there is no room beside it, and only if there will be enough then: else what can be mounted now could not be mounted any more.
func (s chart) write(v *leb.Volume, lay func() api.Errno, need int) api.Errno {
	ids := s.dispensable(v)
	for {
		err := lay()
		free := wear.Spare(v.Blocks())
		if err != api.ErrFull || free >= need || free+len(ids) < need {
			return err
		}
		if err := v.Unmap(ids[0]); err != api.OK {
			return err
		}
		ids = ids[1:]
	}
}

// dispensable: the logical blocks that another Check would not need, in the order in which they are to go. Those that a Mount needs are the last ones, and of these the master is: as long as it is there, no Mount takes an older one that could not be erased.
func (s chart) dispensable(v *leb.Volume) []int {
	var first, last []int
	for _, id := range slices.Backward(v.IDs()) {
		switch {
		case s.feeds(id):
		case s.mounts(id):
			last = append(last, id)
		default:
			first = append(first, id)
		}
	}
	return append(first, last...)
}

// mounts: is a logical block one that a Mount needs?
func (s chart) mounts(id int) bool {
	if id < masters {
		return id == s.master
	}
	return id/genNumbers == s.named
}
