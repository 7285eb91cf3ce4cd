package pack

import "chert/api"

// fill counts what a packer would hold, without the bytes themselves: to know how many pages there are, no text is needed.
type fill struct {
	size  int // bytes of a page
	held  int // bytes of the page that is not full yet
	pages int // that became full, or ended
}

func empty(size int) fill { return fill{size: min(max(size, 1), api.MaxRaw)} }

// add: a text of so many bytes is held, of at most a page; tells whether it found the page before it full.
func (f *fill) add(n int) bool {
	if f.held+n <= f.size {
		f.held += n
		return false
	}
	f.end()
	f.held = n
	return true
}

// end: nothing is held any more; tells whether something was.
func (f *fill) end() bool {
	if f.held == 0 {
		return false
	}
	f.held = 0
	f.pages++
	return true
}
