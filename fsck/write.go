package fsck

import (
	"slices"

	"chert/api"
	"chert/leb"
	"chert/node"
	"chert/space"
	"chert/wear"
)

// needOf: how many free blocks a Lay of pairs needs; more than any chip has if they don't fit.
func needOf(plan space.Plan, pairs []api.Pair) int {
	var keys, bytes []int
	for _, pair := range pairs {
		text, _ := node.Encode(node.Node{Key: pair.Key, Value: pair.Value})
		keys, bytes = append(keys, len(pair.Key)), append(bytes, len(text))
	}
	if !plan.Fits(keys, bytes) {
		return api.MaxBlocks + 1
	}
	nodes, index, _ := plan.Need(keys, bytes)
	return nodes + index + 1 // for the first master
}

// write lays what was found. What can be done without is removed only if there is no room beside it: first what no Mount and no Check looks at; then the rest, if that is enough, for otherwise what can be mounted now could not be mounted any more.
func (s chart) write(v *leb.Volume, lay func() api.Errno, need int) api.Errno {
	err := lay()
	for _, unwanted := range []func(id int) bool{s.isLeft, s.isSpare} {
		ids := slices.DeleteFunc(v.IDs(), func(id int) bool { return !unwanted(id) })
		free := wear.Spare(v.Blocks())
		if err != api.ErrFull || free >= need || free+len(ids) < need {
			continue
		}
		if err := remove(v, ids); err != api.OK {
			return err
		}
		err = lay()
	}
	return err
}

// isLeft: is a logical block of no use, whatever becomes of this Check?
func (s chart) isLeft(id int) bool {
	gen := id / genNumbers
	return id >= masters && gen != s.gen && !slices.Contains(s.named, gen)
}

// isSpare: is a logical block none of those that another Check would need?
func (s chart) isSpare(id int) bool { return !s.feeds(id) }

// remove begins with the greatest numbers: the index of a generation goes before the masters that name it, so that a Mount after a power loss never takes one that is older.
func remove(v *leb.Volume, ids []int) api.Errno {
	for _, id := range slices.Backward(ids) {
		if err := v.Unmap(id); err != api.OK {
			return err
		}
	}
	return api.OK
}
