package index

import "iter"

const (
	leastSize = 200     // bytes of a page, at least
	mostText  = 64      // bytes of a key or a value that is stored
	mostPages = 1 << 16 // since an entry leads on by two bytes
)

// draft is a page that is being filled.
type draft struct {
	first string // the key of its first entry
	count int
	text  []byte // of its entries
}

// laid: the pages that the entries of a level take, each with its first key.
func laid(level, size int, entries iter.Seq2[string, string]) iter.Seq2[string, string] {
	return func(yield func(string, string) bool) {
		var d draft
		for key, value := range entries {
			text := entry{key, value}.text()
			if d.count == mostEntries || headBytes+len(d.text)+len(text) > size {
				if !yield(d.first, d.page(level)) {
					return
				}
				d = draft{}
			}
			d.add(key, text)
		}
		if d.count > 0 {
			yield(d.first, d.page(level))
		}
	}
}

// add lays an entry behind the others.
func (d *draft) add(key, text string) {
	if d.count == 0 {
		d.first = key
	}
	d.count++
	d.text = append(d.text, text...)
}

// page: the whole page.
func (d *draft) page(level int) string {
	return string([]byte{byte(level), byte(d.count)}) + string(d.text)
}

// each ranges over entries.
func each(entries []entry) iter.Seq2[string, string] {
	return func(yield func(string, string) bool) {
		for _, e := range entries {
			if !yield(e.key, e.value) {
				return
			}
		}
	}
}
