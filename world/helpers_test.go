package world_test

import (
	"fmt"
	"reflect"
	"slices"
	"testing"

	"chert/api"
	"chert/fs"
	"chert/fsck"
	"chert/nand"
	"chert/page"
	"chert/space"
	"chert/world"
)

// usual is what most tests use.
var usual = api.Geometry{Blocks: 14, Pages: 16, Chunks: 2, Chunk: 128, T: 2}

// geometries is what the broader tests go through.
var geometries = []api.Geometry{
	usual,
	{Blocks: 12, Pages: 16, Chunks: 1, Chunk: 256, T: 1},
	{Blocks: 17, Pages: 20, Chunks: 3, Chunk: 90, T: 3},
	{Blocks: 26, Pages: 24, Chunks: 4, Chunk: 100, T: 8},
}

func run(t *testing.T, g api.Geometry, script ...world.Act) world.Outcome {
	t.Helper()
	o, err := world.Run(g, script)
	if err != api.OK {
		t.Fatalf("Run is %d", err)
	}
	if len(o.Told) != len(script) {
		t.Fatalf("%d answers to %d acts", len(o.Told), len(script))
	}
	return o
}

// codes: the codes of acts on the usual chip.
func codes(t *testing.T, script ...world.Act) []api.Errno {
	t.Helper()
	var all []api.Errno
	for _, told := range run(t, usual, script...).Told {
		all = append(all, told.Code)
	}
	return all
}

func checkCodes(t *testing.T, script []world.Act, want ...api.Errno) {
	t.Helper()
	if got := codes(t, script...); !slices.Equal(got, want) {
		t.Fatalf("the acts are answered %v, not %v", got, want)
	}
}

// checkLast: what the last act is answered, the others with OK.
func checkLast(t *testing.T, script []world.Act, want world.Told) {
	t.Helper()
	o := run(t, usual, script...)
	last := len(script) - 1
	for i, told := range o.Told[:last] {
		if told.Code != api.OK {
			t.Fatalf("act %d is answered %v", i, told)
		}
	}
	checkTold(t, script[last], o.Told[last], want)
}

func checkTold(t *testing.T, a world.Act, got, want world.Told) {
	t.Helper()
	if !same(got, want) {
		t.Fatalf("%s is answered %s, not %s", brief(a), brief(got), brief(want))
	}
}

// brief: an act or an answer, such that its bytes can be printed.
func brief(v any) string { return fmt.Sprintf("%.300q", fmt.Sprintf("%+v", v)) }

func same(a, b world.Told) bool {
	if !slices.Equal(a.Names, b.Names) {
		return false
	}
	a.Names, b.Names = nil, nil
	return reflect.DeepEqual(a, b)
}

// hand does by hand what a script says, by the calls of the layers below.
type hand struct {
	g api.Geometry
	c *nand.Chip
	f *fs.FS
}

func byHand(t *testing.T, g api.Geometry, script []world.Act) world.Outcome {
	t.Helper()
	c, err := page.Chip(g)
	if err != api.OK {
		t.Fatalf("Chip is %d", err)
	}
	h := hand{g: g, c: c}
	if _, ok := space.Of(g); ok {
		h.f, _ = fs.Format(c, g)
	}
	var o world.Outcome
	for _, a := range script {
		o.Told = append(o.Told, h.do(a))
		for b := range g.Blocks {
			_, reads := c.Counts(b)
			o.Reads = max(o.Reads, reads)
		}
	}
	o.Changes = c.Changes()
	return o
}

func (h *hand) do(a world.Act) world.Told {
	switch {
	case a.Kind >= 16 && a.Kind <= 22:
		return world.Told{Code: h.doToChip(a)}
	case a.Kind < 1 || a.Kind > 22:
		return world.Told{Code: api.ErrCommand}
	case h.f == nil:
		return world.Told{Code: api.ErrGone}
	case a.Kind == 9:
		data, err := h.f.Read(a.Path, a.Offset, a.Size)
		return world.Told{Code: err, Data: data}
	case a.Kind == 10:
		names, err := h.f.Readdir(a.Path)
		return world.Told{Code: err, Names: names}
	case a.Kind == 11:
		i, err := h.f.Stat(a.Path)
		return world.Told{Code: err, Number: i.Number, Links: i.Links, Size: i.Size, Dir: i.Dir}
	}
	err := h.doToFiles(a)
	if a.Kind == 15 && err == api.OK {
		h.f = nil
	}
	return world.Told{Code: err}
}

func (h *hand) doToFiles(a world.Act) api.Errno {
	switch a.Kind {
	case 1:
		return h.f.Mkdir(a.Path)
	case 2:
		return h.f.Create(a.Path)
	case 3:
		return h.f.Link(a.Path, a.To)
	case 4:
		return h.f.Unlink(a.Path)
	case 5:
		return h.f.Rmdir(a.Path)
	case 6:
		return h.f.Rename(a.Path, a.To)
	case 7:
		return h.f.Truncate(a.Path, a.Size)
	case 8:
		return h.f.Write(a.Path, a.Offset, a.Data)
	case 12:
		return h.f.Sync()
	case 13:
		return h.f.Fsync(a.Path)
	case 14:
		return h.f.Tick()
	}
	return h.f.Unmount()
}

func (h *hand) doToChip(a world.Act) (err api.Errno) {
	switch a.Kind {
	case 16:
		h.c.On()
		h.f, err = fs.Mount(h.c, h.g)
	case 17:
		h.c.On()
		h.f = nil
		_, err = fsck.Check(h.c, h.g)
	case 18:
		h.c.Cut(a.Offset, a.Size)
	case 19:
		return h.c.Spoil(a.Offset, a.Size)
	case 20:
		return h.c.Wear(a.Offset)
	case 21:
		raw, _ := page.Raw(h.g)
		h.c.Noise(a.Offset, a.Size, raw/h.g.Chunks)
	case 22:
		h.c.On()
		h.f, err = fs.Format(h.c, h.g)
	}
	return err
}
