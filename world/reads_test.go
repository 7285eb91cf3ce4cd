package world_test

import (
	"math/rand"
	"slices"
	"testing"

	"chert/api"
	"chert/world"
)

// bounds: how many reads of a block there may be after each act.
func bounds(g api.Geometry, o world.Outcome, script []world.Act) []int {
	var all []int
	since := 0
	for i, a := range script {
		since++
		all = append(all, 2000+130*g.Pages*since)
		if a.Kind == world.Tick && o.Told[i].Code == api.OK {
			since = 0
		}
	}
	return all
}

func checkReads(t *testing.T, g api.Geometry, script []world.Act) world.Outcome {
	t.Helper()
	o := run(t, g, script...)
	if most := slices.Max(bounds(g, o, script)); o.Reads > most {
		t.Fatalf("%d reads of a block, and not at most %d", o.Reads, most)
	}
	return o
}

// repeated: acts again and again.
func repeated(n int, all ...world.Act) []world.Act {
	var script []world.Act
	for range n {
		script = append(script, all...)
	}
	return script
}

// filled: acts that make a file of some blocks.
func filled() []world.Act {
	script := acts(create("/f"))
	for i := range 8 {
		script = append(script, write("/f", 256*i, string(slices.Repeat([]byte{byte('a' + i), byte(7 * i), 'x', 'y'}, 60))))
	}
	return script
}

// TestReadsAndTicks: so many reads that there would be too many if a Tick did nothing about them.
func TestReadsAndTicks(t *testing.T) {
	t.Parallel()
	for _, x := range []struct {
		times  int
		ticked []world.Act
	}{
		{400, acts(read("/f", 0, 9000), tick)},
		{450, acts(mount, tick)},
		{100, acts(unmount, mount, tick)},
		{100, acts(check, mount, tick)},
		{600, acts(spoil(3, 2), mount, tick)},
	} {
		for _, g := range geometries[:2] {
			script := append(filled(), syncAct)
			o := checkReads(t, g, append(script, repeated(x.times, x.ticked...)...))
			if slices.ContainsFunc(o.Told, func(told world.Told) bool { return told.Code != api.OK }) {
				t.Errorf("%v: not every act of %v is answered with OK", g, x.ticked)
			}
		}
	}
}

// TestReadsWithoutATick: without one, the reads go on, and Reads tells so.
func TestReadsWithoutATick(t *testing.T) {
	t.Parallel()
	script := append(filled(), unmount, mount)
	few := checkReads(t, usual, append(slices.Clone(script), repeated(50, read("/f", 0, 9000))...)).Reads
	many := checkReads(t, usual, append(slices.Clone(script), repeated(2000, read("/f", 0, 9000))...))
	if few < 50 || many.Reads < 4000 {
		t.Errorf("%d reads of a block in 50 acts, and %d in 2000", few, many.Reads)
	}
	later := append(append(slices.Clone(script), repeated(2000, read("/f", 0, 9000))...), tick, unmount, format)
	if o := checkReads(t, usual, later); o.Reads < many.Reads {
		t.Errorf("the greatest number of reads falls from %d to %d", many.Reads, o.Reads)
	}
}

// TestReadsOfAnyAct: no act reads a block too often, whatever is lost and whatever is on the chip.
func TestReadsOfAnyAct(t *testing.T) {
	t.Parallel()
	for seed := range 8 {
		random := rand.New(rand.NewSource(int64(seed)))
		g := geometries[seed%len(geometries)]
		var script []world.Act
		for range 400 {
			script = append(script, anyAct(random, g))
			if random.Intn(4) == 0 {
				script = append(script, mount)
			}
			if random.Intn(3) == 0 {
				script = append(script, tick)
			}
		}
		checkReads(t, g, script)
	}
}

// TestReadsAfterEachAct: the bound holds after each of them.
func TestReadsAfterEachAct(t *testing.T) {
	t.Parallel()
	script := append(filled(), syncAct)
	for range 3 {
		script = append(script, repeated(300, read("/f", 0, 9000))...)
		script = append(script, tick)
	}
	all := bounds(usual, run(t, usual, script...), script)
	for n := 1; n <= len(script); n += 91 {
		if o := run(t, usual, script[:n]...); o.Reads > slices.Max(all[:n]) {
			t.Fatalf("after %d acts, %d reads of a block, and not at most %d", n, o.Reads, slices.Max(all[:n]))
		}
	}
}
