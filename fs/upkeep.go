package fs

import (
	"slices"

	"chert/api"
	"chert/wear"
)

const (
	mostReads = 2000 // of a block, since it was erased
	mostApart = 64   // the numbers of erases
)

// sync makes everything last that was done.
func (f *FS) sync() api.Errno {
	err := f.log.sync()
	if err == api.ErrFull {
		return f.rewrite(f.tree, nil)
	}
	return err
}

func (f *FS) fsync(path string) api.Errno {
	if _, err := f.tree.Find(path); err != api.OK {
		return err
	}
	return f.sync()
}

func (f *FS) tick() api.Errno {
	blocks := f.volume.Blocks()
	isTired := len(wear.Scrub(blocks, mostReads)) > 0 || slices.ContainsFunc(blocks, isTiredFree)
	if !isTired && wear.Level(blocks, mostApart) < 0 {
		return api.OK
	}
	if err := f.refresh(); err != api.OK {
		return err
	}
	return f.rewrite(f.tree, nil)
}

// isTiredFree: was a block read too often that holds nothing? A Mount reads those too. If it is worn, nothing can be done about it.
func isTiredFree(b wear.Block) bool { return !b.Used && !b.Worn && b.Reads > mostReads }

// refresh has such blocks erased, as it happens to a block only when what it holds goes.
func (f *FS) refresh() api.Errno {
	for k := f.nodeBlocks; slices.ContainsFunc(f.volume.Blocks(), isTiredFree); k++ {
		err := f.volume.Map(f.nodeID(k), true)
		if err == api.ErrPower {
			return err
		}
		if err != api.OK {
			break
		}
	}
	return f.removeOthers()
}

func (f *FS) unmount() api.Errno {
	if err := f.sync(); err != api.OK {
		return err
	}
	if err := f.rewrite(f.tree, nil); err != api.OK {
		return err
	}
	f.ended = api.ErrClosed
	return api.OK
}
