package index

import (
	"slices"
	"strings"

	"chert/api"
	"chert/numbers"
)

const (
	headBytes   = 2   // of a page, before its entries
	mostEntries = 255 // of a page
	linkBytes   = 2   // of the number of a page
)

// entry is an entry of a page.
type entry struct {
	key, value string
}

// page is one that was read.
type page struct {
	number, level int
	entries       []entry
}

// text: an entry as it stands in a page.
func (e entry) text() string {
	return numbers.Join(1, len(e.key)) + e.key + numbers.Join(1, len(e.value)) + e.value
}

// read: a page of the source.
func read(s Source, n int) (page, api.Errno) {
	text, err := ask(s, n)
	if err != api.OK {
		return page{}, err
	}
	p, ok := parse(text)
	if !ok {
		return page{}, api.ErrForm
	}
	p.number = n
	return p, api.OK
}

// ask: the text of a page. A source that panics is none, such as a nil pointer whose method looks at what it points to.
func ask(s Source, n int) (text string, err api.Errno) {
	defer func() {
		if recover() != nil {
			text, err = "", api.ErrArg
		}
	}()
	return s.Page(n)
}

// parse: the level and the entries of a page; false if its text is none.
func parse(text string) (page, bool) {
	if len(text) < headBytes || text[1] == 0 {
		return page{}, false
	}
	p := page{level: int(text[0])}
	rest := text[headBytes:]
	for i := range int(text[1]) {
		var e entry
		var ok bool
		if e.key, rest, ok = cut(rest); !ok {
			return page{}, false
		}
		if e.value, rest, ok = cut(rest); !ok {
			return page{}, false
		}
		if i > 0 && e.key <= p.entries[i-1].key {
			return page{}, false
		}
		p.entries = append(p.entries, e)
	}
	return p, true
}

// cut: the bytes whose number is in the first byte, and what follows them; false if they are not complete.
func cut(text string) (string, string, bool) {
	if text == "" {
		return "", "", false
	}
	end := 1 + int(text[0])
	if end > len(text) {
		return "", "", false
	}
	return text[1:end], text[end:], true
}

// place: which entry has the greatest key that is not greater than key, -1 if none has; and whether it is key itself.
func (p page) place(key string) (int, bool) {
	i, found := slices.BinarySearchFunc(p.entries, key, func(e entry, key string) int { return strings.Compare(e.key, key) })
	if !found {
		i--
	}
	return i, found
}

// leads: the number of the page that the i-th entry leads to; false if it leads to none. Numbers fall on every way down, so each way ends.
func (p page) leads(i int) (int, bool) {
	value := p.entries[i].value
	n := numbers.Of(value)
	return n, len(value) == linkBytes && n < p.number
}

// below: the page that the i-th entry leads to.
func (p page) below(s Source, i int) (page, api.Errno) {
	n, ok := p.leads(i)
	if !ok {
		return page{}, api.ErrForm
	}
	q, err := read(s, n)
	if err == api.OK && q.level != p.level-1 {
		return page{}, api.ErrForm
	}
	return q, err
}
