package fs

import (
	"chert/api"
	"chert/index"
	"chert/journal"
	"chert/key"
	"chert/leb"
	"chert/lz"
	"chert/node"
	"chert/ops"
)

// reader reads pages of a generation, each of them once: those of an index are needed again and again, and each time that a page is read wears on its block.
type reader struct {
	layout
	volume *leb.Volume
	pages  map[journal.Place]answered
}

// answered is what a page was answered with.
type answered struct {
	payload string
	err     api.Errno
}

// at: the page on which a place is.
func (r *reader) at(p journal.Place) (string, api.Errno) {
	p.At = 0
	page, again := r.pages[p]
	if !again {
		page.payload, page.err = r.volume.Read(p.ID, p.Page)
		r.pages[p] = page
	}
	return page.payload, page.err
}

// Page: a page of the index.
func (r *reader) Page(n int) (string, api.Errno) { return r.at(r.indexPlace(n)) }

// value: what the generation holds for a key.
func (r *reader) value(text string) (string, api.Errno) {
	location, err := index.Find(r, r.indexPages, text)
	if err != api.OK {
		return "", err
	}
	place, ok := placeOf(location)
	if !ok {
		return "", api.ErrForm
	}
	page, err := r.at(place)
	if err != api.OK {
		return "", err
	}
	n, _, err := node.Decode(page, place.At)
	if err == api.OK && n.Key != text {
		return "", api.ErrForm
	}
	return n.Value, err
}

// pieces: the bytes of a file's pieces, from a first one on.
func (f *FS) pieces(number, first, end int) ([]string, api.Errno) {
	var pieces []string
	r := &reader{layout: f.layout, volume: f.volume, pages: map[journal.Place]answered{}}
	for k := first; k < end; k++ {
		text, _ := key.Encode(key.Key{Number: number, Kind: key.Data, Piece: k})
		data := ""
		if _, exists := f.stock.sizes[text]; exists {
			value, err := f.value(r, text)
			if err == api.OK {
				data, err = lz.Unpack(value, api.Piece)
			}
			if err == api.ErrPower {
				return nil, err
			}
			if err != api.OK {
				return nil, api.ErrIO
			}
		}
		pieces = append(pieces, data)
	}
	return pieces, api.OK
}

// value: that of a piece which exists.
func (f *FS) value(r *reader, text string) (string, api.Errno) {
	if value, ok := f.kept.Get(text); ok {
		return value, api.OK
	}
	if place, ok := f.log.places[text]; ok {
		n, err := f.log.journal.Read(place)
		return n.Value, err
	}
	return r.value(text)
}

func (f *FS) read(path string, offset, n int) (string, api.Errno) {
	info, err := f.file(path)
	if err != api.OK {
		return "", err
	}
	if offset < 0 || n < 0 {
		return "", api.ErrInvalid
	}
	first, end := ops.Span(offset, min(n, info.Size-offset))
	pieces, err := f.pieces(info.Number, first, end)
	if err != api.OK {
		return "", err
	}
	return ops.Read(info.Size, offset, n, pieces), api.OK
}
