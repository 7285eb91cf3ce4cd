package nand

import "bytes"

// The states of a page.
const (
	erased = iota
	written
	spoilt
)

// modes: in how many ways a change can be torn.
const modes = 8

// block is a block of a chip.
type block struct {
	pages         []page
	erases, reads int
	worn          bool
}

// page is a page of a block.
type page struct {
	state int
	torn  bool   // a Program of it was torn: it is not to be written, even if it looks erased
	data  []byte // of a written one
}

// blankFrom: can page p be written, so far as it and those behind it go?
func (b *block) blankFrom(p int) bool {
	for _, page := range b.pages[p:] {
		if page.state != erased || page.torn {
			return false
		}
	}
	return true
}

// erase takes the marks of torn pages too.
func (b *block) erase() { clear(b.pages) }

// tearErase: what an Erase leaves in which the power went off.
func (b *block) tearErase(mode int) {
	switch {
	case mode < 3:
	case mode < 6:
		for p := range b.pages {
			b.pages[p].spoilIfNotErased()
		}
	default:
		b.erase()
	}
}

// tearProgram: what a Program leaves in which the power went off.
func (b *block) tearProgram(p int, data string, mode int) {
	switch mode % 3 {
	case 1:
		b.pages[p].spoil()
	case 2:
		b.pages[p].write(data)
	}
	b.pages[p].torn = true
	if lower, isUpper := Pair(p); isUpper && mode >= 4 {
		b.pages[lower].spoilIfWritten()
	}
}

func (p *page) write(data string) { p.state, p.data = written, []byte(data) }

func (p *page) spoil() { p.state, p.data = spoilt, nil }

func (p *page) spoilIfWritten() {
	if p.state == written {
		p.spoil()
	}
}

func (p *page) spoilIfNotErased() {
	if p.state != erased {
		p.spoil()
	}
}

// shown: the size bytes that the cells of a page show, as new memory.
func (p *page) shown(size int) []byte {
	switch p.state {
	case erased:
		return bytes.Repeat([]byte{0xFF}, size)
	case written:
		return bytes.Clone(p.data)
	}
	return make([]byte, size)
}
