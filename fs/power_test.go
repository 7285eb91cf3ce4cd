package fs_test

import (
	"fmt"
	"math/rand"
	"testing"

	"chert/api"
	"chert/fs"
	"chert/nand"
	"chert/space"
)

// step is a call of a story, what it tells, and the model after it.
type step struct {
	call  call
	want  told
	after *model
	shown string
}

// keeps: after this call, all that was done before it lasts.
func (s step) keeps() bool {
	return s.call.name == "sync" || s.call.name == "fsync" || s.call.name == "unmount"
}

// story: calls that each do something, behind a step that does nothing.
func story(t *testing.T, random *rand.Rand, plan space.Plan, length int) []step {
	t.Helper()
	m := newModel()
	steps := []step{{call{name: "sync"}, told{}, m, m.shown()}}
	add := func(c call, want told, after *model) {
		m = after
		steps = append(steps, step{c, want, m, m.shown()})
	}
	remount := func() {
		add(call{name: "unmount"}, told{}, m)
		add(call{name: "mount"}, told{}, m.remounted(t))
	}
	for len(steps) < length {
		c := anyCall(random, m)
		want, after := m.expect(plan, c)
		if want.err == api.OK && (after.shown() != m.shown() || c.name == "sync") {
			add(c, want, after)
		}
		if random.Intn(40) == 0 {
			remount()
		}
	}
	remount()
	return steps
}

// TestPowerLoss cuts each change of some stories in each way.
func TestPowerLoss(t *testing.T) {
	for seed, g := range geometries[:3] {
		steps := story(t, rand.New(rand.NewSource(int64(seed))), planOf(t, g), 60/(1+seed))
		for mode := range 8 {
			t.Run(fmt.Sprint(g, mode), func(t *testing.T) {
				t.Parallel()
				for n := 1; cutStory(t, g, steps, n, mode); n++ {
				}
			})
		}
	}
}

// cutStory tells whether the power went off before the story's end.
func cutStory(t *testing.T, g api.Geometry, steps []step, n, mode int) bool {
	t.Helper()
	when := fmt.Sprintf("change %d, mode %d", n, mode)
	f, c := formatted(t, g)
	c.Cut(n, mode)
	kept := 0
	for i, s := range steps {
		var got told
		if s.call.name == "mount" {
			f, got.err = fs.Mount(c, g)
		} else {
			got = s.call.on(f)
		}
		if got == (told{err: api.ErrPower}) {
			if f != nil {
				checkPowerless(t, f)
			}
			f = remounted(t, c, g, n%4, mode, when)
			checkFound(t, f, c, g, steps[kept:i+1], when)
			return true
		}
		if got != s.want {
			t.Fatalf("%s: %v is %.200v, not %.200v", when, s.call, got, s.want)
		}
		if s.keeps() {
			kept = i
		}
	}
	return false
}

func checkPowerless(t *testing.T, f *fs.FS) {
	t.Helper()
	for _, c := range []call{{name: "stat", path: "/"}, {name: "read", path: "/a"}, {name: "sync"}, {name: "unmount"}, {name: "mkdir", path: "//"}} {
		if got := c.on(f); got != (told{err: api.ErrPower}) {
			t.Fatalf("%v without power is %v", c, got)
		}
	}
}

// remounted: what a Mount finds, after the power went off in so many Mounts before it.
func remounted(t *testing.T, c *nand.Chip, g api.Geometry, cuts, mode int, when string) *fs.FS {
	t.Helper()
	for n := range cuts {
		c.On()
		c.Cut(1+n*5, mode+n)
		f, err := fs.Mount(c, g)
		if err == api.OK {
			c.On()
			return f
		}
		check(t, when+": Mount", err, api.ErrPower)
		if f != nil {
			t.Fatal("a file system beside an error")
		}
	}
	c.On()
	f, err := fs.Mount(c, g)
	check(t, when+": Mount", err, api.OK)
	return f
}

// checkFound: a Mount found what was after one of the steps, and it goes on from there.
func checkFound(t *testing.T, f *fs.FS, c *nand.Chip, g api.Geometry, steps []step, when string) {
	t.Helper()
	got := shownBy(t, f)
	for _, s := range steps {
		if s.shown != got {
			continue
		}
		m := s.after.remounted(t)
		for _, c := range []call{{name: "create", path: "/later"}, {name: "write", path: "/later", data: "abc"}, {name: "sync"}} {
			m = m.checkCall(t, planOf(t, g), f, c)
		}
		checkShown(t, mounted(t, c, g), m)
		return
	}
	t.Fatalf("%s: a Mount found\n%s\nwhich is not what was after one of %d steps", when, got, len(steps))
}

// TestPowerThatGoesOffElsewhere: whatever call finds it out.
func TestPowerThatGoesOffElsewhere(t *testing.T) {
	for _, where := range []string{"in a generation", "in the journal"} {
		for _, first := range []call{
			{name: "read", path: "/f", size: 200}, {name: "write", path: "/f", offset: 71, data: "x"}, {name: "truncate", path: "/f", size: 71}, {name: "unmount"},
		} {
			f, c := twoFiles(t)
			ok(t, f.Sync())
			if where == "in a generation" {
				ok(t, f.Unmount())
				f = mounted(t, c, usual)
			}
			c.Cut(1, 0)
			c.Erase(usual.Blocks - 1)
			if got := first.on(f); got != (told{err: api.ErrPower}) {
				t.Fatalf("%v %s is %v", first, where, got)
			}
			c.On()
			checkPowerless(t, f)
		}
	}
}
