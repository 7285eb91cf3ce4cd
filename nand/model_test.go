package nand_test

import (
	"math/rand"
	"testing"

	"chert/api"
	"chert/nand"
)

// event is something that happened to a page of the model: what it showed afterwards, and whether it can be written.
type event struct {
	shown    string
	writable bool
	written  bool
}

// model is a chip by the chapter's words: each page is what happened to it last.
type model struct {
	blocks, pages, size    int
	last                   [][]event
	erases, reads          []int
	worn                   []bool
	off                    bool
	cutAt, mode            int // the change that is torn; 0 for none
	changes                int
	seed, most, noisePiece int
}

func fill(b byte, size int) string {
	list := make([]byte, size)
	for i := range list {
		list[i] = b
	}
	return string(list)
}

func newModel(blocks, pages, size int) *model {
	m := &model{blocks: blocks, pages: pages, size: size, erases: make([]int, blocks), reads: make([]int, blocks), worn: make([]bool, blocks)}
	for range blocks {
		m.last = append(m.last, make([]event, pages))
	}
	for b := range blocks {
		m.wipe(b)
	}
	return m
}

func (m *model) wipe(b int) {
	for p := range m.pages {
		m.last[b][p] = event{fill(0xFF, m.size), true, false}
	}
}

// lose: the page shows 00 from now on.
func (m *model) lose(b, p int) { m.last[b][p] = event{fill(0, m.size), false, false} }

func (m *model) hasBlock(b int) bool { return 0 <= b && b < m.blocks }

func (m *model) hasPage(b, p int) bool { return m.hasBlock(b) && 0 <= p && p < m.pages }

// looksErased: neither written nor spoilt.
func (e event) looksErased(size int) bool { return !e.written && e.shown == fill(0xFF, size) }

func (m *model) erase(b int) api.Errno {
	if !m.hasBlock(b) {
		return api.ErrArg
	}
	if m.off {
		return api.ErrPower
	}
	if m.worn[b] {
		return api.ErrWorn
	}
	m.changes++
	m.erases[b]++
	m.reads[b] = 0
	if m.changes != m.cutAt {
		m.wipe(b)
		return api.OK
	}
	m.off = true
	if m.mode == 3 || m.mode == 4 || m.mode == 5 {
		for p := range m.pages {
			if !m.last[b][p].looksErased(m.size) {
				m.lose(b, p)
			}
		}
	}
	if m.mode == 6 || m.mode == 7 {
		m.wipe(b)
	}
	return api.ErrPower
}

func (m *model) program(b, p int, data string) api.Errno {
	if !m.hasPage(b, p) || len(data) != m.size {
		return api.ErrArg
	}
	if m.off {
		return api.ErrPower
	}
	if m.worn[b] {
		return api.ErrWorn
	}
	for later := m.pages - 1; later >= p; later-- {
		if !m.last[b][later].writable {
			return api.ErrOrder
		}
	}
	m.changes++
	if m.changes != m.cutAt {
		m.last[b][p] = event{data, false, true}
		return api.OK
	}
	m.off = true
	switch m.mode {
	case 0, 3, 6:
		m.last[b][p].writable = false
	case 1, 4, 7:
		m.lose(b, p)
	case 2, 5:
		m.last[b][p] = event{data, false, true}
	}
	if m.mode >= 4 && (p%4 == 2 || p%4 == 3) && m.last[b][p-2].written {
		m.lose(b, p-2)
	}
	return api.ErrPower
}

func (m *model) read(b, p int) (string, api.Errno) {
	if !m.hasPage(b, p) {
		return "", api.ErrArg
	}
	if m.off {
		return "", api.ErrPower
	}
	m.reads[b]++
	return slowNoise(m.last[b][p].shown, m.seed, m.most, m.noisePiece, m.reads[b], b, p), api.OK
}

func (m *model) spoil(b, p int) api.Errno {
	if !m.hasPage(b, p) {
		return api.ErrArg
	}
	if m.last[b][p].written {
		m.lose(b, p)
	}
	return api.OK
}

func (m *model) wear(b int) api.Errno {
	if !m.hasBlock(b) {
		return api.ErrArg
	}
	m.worn[b] = true
	return api.OK
}

func (m *model) cut(n, mode int) {
	if n < 1 {
		n = 1
	}
	if mode < 0 {
		mode = -(mode + 1)
	}
	m.cutAt, m.mode = m.changes+n, mode%8
}

// both is a chip and its model.
type both struct {
	t      *testing.T
	chip   *nand.Chip
	model  *model
	random *rand.Rand
}

// step does one thing with both of them.
func (x *both) step() {
	c, m, r := x.chip, x.model, x.random
	b, p := r.Intn(m.blocks+1)-r.Intn(40)/39, r.Intn(m.pages+1)-r.Intn(40)/39
	switch n := r.Intn(100); {
	case n < 45:
		data := []byte(fill(0, m.size+(r.Intn(40)-1)/38))
		r.Read(data)
		x.same("Program", c.Program(b, p, string(data)), m.program(b, p, string(data)))
	case n < 55:
		x.same("Erase", c.Erase(b), m.erase(b))
	case n < 75:
		got, err := c.Read(b, p)
		want, wantErr := m.read(b, p)
		x.same("Read", err, wantErr)
		if got != want {
			x.t.Fatalf("Read(%d, %d) is %x, not %x", b, p, got, want)
		}
	case n < 80:
		x.same("Spoil", c.Spoil(b, p), m.spoil(b, p))
	case n < 88:
		n, mode := r.Intn(12)-1, r.Intn(64)-32
		c.Cut(n, mode)
		m.cut(n, mode)
	case n < 97:
		c.On()
		m.off, m.cutAt = false, 0
	case n < 99:
		m.seed, m.most, m.noisePiece = int(r.Uint64()), r.Intn(6)-1, r.Intn(8)-1
		c.Noise(m.seed, m.most, m.noisePiece)
	case r.Intn(20) == 0:
		x.same("Wear", c.Wear(b), m.wear(b))
	}
}

func (x *both) same(what string, got, want api.Errno) {
	x.t.Helper()
	if got != want {
		x.t.Fatalf("%s is %d, not %d", what, got, want)
	}
}

// compare holds what both tell of themselves against each other.
func (x *both) compare() {
	if x.chip.Off() != x.model.off || x.chip.Changes() != x.model.changes {
		x.t.Fatalf("Off %v, Changes %d, not %v, %d", x.chip.Off(), x.chip.Changes(), x.model.off, x.model.changes)
	}
	for b := range x.model.blocks {
		erases, reads := x.chip.Counts(b)
		if erases != x.model.erases[b] || reads != x.model.reads[b] {
			x.t.Fatalf("Counts(%d) is %d, %d, not %d, %d", b, erases, reads, x.model.erases[b], x.model.reads[b])
		}
	}
}

// TestAnyCalls: whatever is called, a chip answers what its model does.
func TestAnyCalls(t *testing.T) {
	for seed := range int64(300) {
		random := rand.New(rand.NewSource(seed))
		blocks, pages, size := 1+random.Intn(3), 4+4*random.Intn(3), 1+random.Intn(6)
		x := &both{t, newChip(t, blocks, pages, size), newModel(blocks, pages, size), random}
		for range 600 {
			x.step()
			x.compare()
		}
		x.chip.On()
		x.model.off, x.model.cutAt = false, 0
		for b := range blocks {
			for p := range pages {
				want, _ := x.model.read(b, p)
				checkRead(t, x.chip, b, p, want)
			}
		}
	}
}
