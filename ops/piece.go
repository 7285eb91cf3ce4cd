package ops

import (
	"slices"
	"strings"

	"chert/api"
	"chert/key"
	"chert/lz"
)

// mostBytes is more than any file has that a program is given.
const mostBytes = 1<<31 - 1

// Span: the pieces that bytes of a file lie in.
func Span(offset, size int) (int, int) {
	if offset < 0 || size < 1 || offset > api.MaxFile || size > api.MaxFile {
		return 0, 0
	}
	return offset / api.Piece, piecesOf(offset + size)
}

// Write: the changes of pieces, where data is written, and the size behind it.
func Write(number, size, offset int, data string, old []string) ([]Change, int, api.Errno) {
	if offset < 0 || len(data) > api.MaxWrite {
		return nil, 0, api.ErrInvalid
	}
	if offset > api.MaxFile-len(data) {
		return nil, 0, api.ErrBig
	}
	if data == "" {
		return nil, size, api.OK
	}
	first, end := Span(offset, len(data))
	before := spread(old, end-first)
	after := slices.Clone(before)
	copy(after[offset%api.Piece:], data)
	return differences(number, first, before, after), max(size, offset+len(data)), api.OK
}

// Cut: the changes of pieces, where a file is cut.
func Cut(number, size, to int, last string) []Change {
	if to < 0 || to >= size || size-to > mostBytes {
		return nil
	}
	var changes []Change
	if in := to % api.Piece; in > 0 {
		before := spread([]string{last}, 1)
		after := slices.Clone(before)
		clear(after[in:])
		changes = differences(number, to/api.Piece, before, after)
	}
	for piece := piecesOf(to); piece < piecesOf(size); piece++ {
		changes = append(changes, changeOf(number, piece, nil))
	}
	return changes
}

// Read: bytes out of pieces.
func Read(size, offset, n int, pieces []string) string {
	if offset < 0 || offset >= size || n < 1 {
		return ""
	}
	n = min(n, size-offset)
	if n > mostBytes {
		return ""
	}
	data := make([]byte, n)
	if first, end := Span(offset, n); first < end {
		copy(data, spread(pieces, end-first)[offset%api.Piece:])
	}
	return string(data)
}

// piecesOf: how many pieces the first so many bytes lie in.
func piecesOf(bytes int) int {
	n := bytes / api.Piece
	if bytes%api.Piece > 0 {
		n++
	}
	return n
}

// spread: the bytes of so many pieces one behind the other, with those bytes 00 that their texts leave out.
func spread(pieces []string, n int) []byte {
	all := make([]byte, n*api.Piece)
	for i, piece := range pieces[:min(n, len(pieces))] {
		copy(all[i*api.Piece:(i+1)*api.Piece], piece)
	}
	return all
}

// differences: the changes of pieces, from a first one on, whose bytes were others before.
func differences(number, first int, before, after []byte) []Change {
	var changes []Change
	for at := 0; at < len(after); at += api.Piece {
		data := after[at : at+api.Piece]
		if !slices.Equal(data, before[at:at+api.Piece]) {
			changes = append(changes, changeOf(number, first+at/api.Piece, data))
		}
	}
	return changes
}

// changeOf: that a piece has these bytes from now on.
func changeOf(number, piece int, data []byte) Change {
	k := key.Key{Number: number, Kind: key.Data, Piece: piece}
	text := strings.TrimRight(string(data), "\x00")
	if text == "" {
		return Change{Key: k, Gone: true}
	}
	return Change{Key: k, Text: lz.Pack(text)}
}
