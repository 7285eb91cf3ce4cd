package world

import (
	"chert/api"
	"chert/fs"
	"chert/fsck"
	"chert/nand"
	"chert/page"
)

// world is a chip, and the file system on it that is mounted, if one is.
type world struct {
	geometry api.Geometry
	chip     *nand.Chip
	mounted  *fs.FS
}

// calls holds what is done at an act of each kind. There is none of kind 0.
type calls [Format + 1]func(Act) Told

// answer: what an act is answered.
func (c calls) answer(a Act) Told {
	if a.Kind < Mkdir || a.Kind > Format {
		return Told{Code: api.ErrCommand}
	}
	return c[a.Kind](a)
}

// calls: what is done to this world.
func (w *world) calls() calls {
	return calls{
		Mkdir:    w.doing(func(f *fs.FS, a Act) api.Errno { return f.Mkdir(a.Path) }),
		Create:   w.doing(func(f *fs.FS, a Act) api.Errno { return f.Create(a.Path) }),
		Link:     w.doing(func(f *fs.FS, a Act) api.Errno { return f.Link(a.Path, a.To) }),
		Unlink:   w.doing(func(f *fs.FS, a Act) api.Errno { return f.Unlink(a.Path) }),
		Rmdir:    w.doing(func(f *fs.FS, a Act) api.Errno { return f.Rmdir(a.Path) }),
		Rename:   w.doing(func(f *fs.FS, a Act) api.Errno { return f.Rename(a.Path, a.To) }),
		Truncate: w.doing(func(f *fs.FS, a Act) api.Errno { return f.Truncate(a.Path, a.Size) }),
		Write:    w.doing(func(f *fs.FS, a Act) api.Errno { return f.Write(a.Path, a.Offset, a.Data) }),
		Read:     w.asking(read),
		Readdir:  w.asking(readdir),
		Stat:     w.asking(stat),
		Sync:     w.doing(func(f *fs.FS, _ Act) api.Errno { return f.Sync() }),
		Fsync:    w.doing(func(f *fs.FS, a Act) api.Errno { return f.Fsync(a.Path) }),
		Tick:     w.doing(func(f *fs.FS, _ Act) api.Errno { return f.Tick() }),
		Unmount:  w.doing(func(f *fs.FS, _ Act) api.Errno { return w.unmount(f) }),
		Mount:    coded(func(Act) api.Errno { return w.start(fs.Mount) }),
		Check:    coded(func(Act) api.Errno { return w.check() }),
		Cut:      coded(w.cut),
		Spoil:    coded(func(a Act) api.Errno { return w.chip.Spoil(a.Offset, a.Size) }),
		Wear:     coded(func(a Act) api.Errno { return w.chip.Wear(a.Offset) }),
		Noise:    coded(w.noise),
		Format:   coded(func(Act) api.Errno { return w.start(fs.Format) }),
	}
}

// coded: a call that tells nothing but its code.
func coded(call func(Act) api.Errno) func(Act) Told {
	return func(a Act) Told { return Told{Code: call(a)} }
}

// asking: a call of the file system that is mounted, if one is.
func (w *world) asking(call func(*fs.FS, Act) Told) func(Act) Told {
	return func(a Act) Told {
		if w.mounted == nil {
			return Told{Code: api.ErrGone}
		}
		return call(w.mounted, a)
	}
}

// doing: such a call that tells nothing but its code.
func (w *world) doing(call func(*fs.FS, Act) api.Errno) func(Act) Told {
	return w.asking(func(f *fs.FS, a Act) Told { return Told{Code: call(f, a)} })
}

func read(f *fs.FS, a Act) Told {
	data, err := f.Read(a.Path, a.Offset, a.Size)
	return Told{Code: err, Data: data}
}

func readdir(f *fs.FS, a Act) Told {
	names, err := f.Readdir(a.Path)
	return Told{Code: err, Names: names}
}

func stat(f *fs.FS, a Act) Told {
	info, err := f.Stat(a.Path)
	return Told{Code: err, Number: info.Number, Links: info.Links, Size: info.Size, Dir: info.Dir}
}

func (w *world) unmount(f *fs.FS) api.Errno {
	err := f.Unmount()
	if err == api.OK {
		w.mounted = nil
	}
	return err
}

// start switches the power on, and mounts what a call finds or makes on the chip.
func (w *world) start(open func(*nand.Chip, api.Geometry) (*fs.FS, api.Errno)) api.Errno {
	w.chip.On()
	system, err := open(w.chip, w.geometry)
	w.mounted = system // nil beside an error
	return err
}

func (w *world) check() api.Errno {
	w.chip.On()
	w.mounted = nil
	_, err := fsck.Check(w.chip, w.geometry)
	return err
}

func (w *world) cut(a Act) api.Errno {
	w.chip.Cut(a.Offset, a.Size)
	return api.OK
}

// noise turns bits in each chunk with its parity, which is what a code corrects.
func (w *world) noise(a Act) api.Errno {
	raw, _ := page.Raw(w.geometry)
	w.chip.Noise(a.Offset, a.Size, raw/w.geometry.Chunks)
	return api.OK
}

// reads: the greatest number of reads of a block since it was erased.
func (w *world) reads() int {
	most := 0
	for b := range w.geometry.Blocks {
		_, reads := w.chip.Counts(b)
		most = max(most, reads)
	}
	return most
}
