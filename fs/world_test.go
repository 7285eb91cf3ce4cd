package fs_test

import (
	"fmt"
	"math/rand"
	"slices"
	"testing"

	"chert/api"
	"chert/fs"
	"chert/nand"
	"chert/space"
)

// world is a file system to which all sorts of things happen.
type world struct {
	t      *testing.T
	random *rand.Rand
	g      api.Geometry
	plan   space.Plan
	c      *nand.Chip
	f      *fs.FS
	model  *model
	after  []*model // what a Mount may find: the model that lasts, and those that followed it
	worn   bool
	when   string
}

// TestWorlds: with worn blocks, lost pages and power losses, the file system is the model, or tells why not.
func TestWorlds(t *testing.T) {
	for seed := range 24 {
		g := geometries[seed%len(geometries)]
		f, c := formatted(t, g)
		w := &world{t: t, random: rand.New(rand.NewSource(int64(seed))), g: g, plan: planOf(t, g), c: c, f: f, model: newModel()}
		w.after = []*model{w.model}
		c.Noise(seed, g.T, g.Chunk+bytesOfParity(t, g))
		for i := range 400 {
			w.when = fmt.Sprintf("seed %d, call %d", seed, i)
			w.happen(seed)
			w.call()
		}
		checkShown(t, w.f, w.model)
	}
}

// happen: what goes wrong, of which not everything does in each world.
func (w *world) happen(seed int) {
	w.t.Helper()
	if seed%3 == 0 && w.random.Intn(100) == 0 {
		w.c.Wear(w.random.Intn(w.g.Blocks))
		w.worn = true
	}
	if seed%2 == 0 && w.random.Intn(40) == 0 {
		w.c.Cut(1+w.random.Intn(60), w.random.Intn(8))
	}
	if w.random.Intn(100) == 0 {
		loseOneOfEachGroup(w.t, w.random, w.c, w.g)
	}
	if w.random.Intn(100) == 0 {
		w.mount()
	}
}

// call makes a call, and a Mount if there has to be one.
func (w *world) call() {
	w.t.Helper()
	c := anyCall(w.random, w.model)
	if w.random.Intn(30) == 0 {
		c = call{name: "unmount"}
	}
	keeps := slices.Contains([]string{"sync", "fsync", "unmount", "tick"}, c.name)
	want, after := w.model.expect(w.plan, c)
	changes := w.c.Changes()
	got := c.on(w.f)
	w.checkChanges(changes)
	switch {
	case got.err == api.ErrPower:
		w.after = append(w.after, after)
		w.mount()
	case got == want:
		if after != w.model {
			w.model, w.after = after, append(w.after, after)
		}
		if keeps && got.err == api.OK && c.name != "tick" {
			w.after = []*model{w.model}
		}
		if c.name == "unmount" {
			w.mount()
		}
	case w.worn && want.err == api.OK && keeps && got.err == api.ErrFull:
	case w.worn && want.err == api.OK && after != w.model && got.err == api.ErrNoSpace:
	default:
		w.t.Fatalf("%s: %v is %.200v, not %.200v", w.when, c, got, want)
	}
}

func (w *world) checkChanges(before int) {
	w.t.Helper()
	if n := w.c.Changes() - before; n > 3*w.g.Blocks*w.g.Pages+100 {
		w.t.Fatalf("%s: %d changes in a call", w.when, n)
	}
}

// mount: the power goes off in it now and then.
func (w *world) mount() {
	w.t.Helper()
	for {
		w.c.On()
		if w.random.Intn(3) == 0 {
			w.c.Cut(1+w.random.Intn(60), w.random.Intn(8))
		}
		changes := w.c.Changes()
		f, err := fs.Mount(w.c, w.g)
		w.checkChanges(changes)
		if err == api.ErrPower {
			continue
		}
		check(w.t, w.when+": Mount", err, api.OK)
		w.c.On()
		w.f = f
		break
	}
	shown := shownBy(w.t, w.f)
	i := slices.IndexFunc(w.after, func(m *model) bool { return m.shown() == shown })
	if i < 0 {
		w.t.Fatalf("%s: Mount shows\n%s\nwhich is none of %d states", w.when, shown, len(w.after))
	}
	w.model = w.after[i].remounted(w.t)
	w.after = []*model{w.model}
}
