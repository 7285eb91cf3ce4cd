package leb

import (
	"strings"

	"chert/api"
)

const (
	labelMark   = 'L'
	numberBytes = 8
	labelBytes  = 2 + 2*numberBytes
)

// The bits of a label's last byte.
const (
	singleBit = 1 << iota
	changedBit
	noBit // and all above it
)

// label is what the first page of a logical block tells of it.
type label struct {
	id, turn        int
	single, changed bool // changed: Change wrote it
}

// isNumber: can it be an id or a turn?
func isNumber(n int) bool { return n >= 0 && n <= api.MaxNumber }

// payload: the label as it is written.
func (l label) payload() string {
	flags := 0
	if l.single {
		flags |= singleBit
	}
	if l.changed {
		flags |= changedBit
	}
	text := []byte{labelMark}
	text = appendNumber(text, l.id)
	text = appendNumber(text, l.turn)
	return string(append(text, byte(flags)))
}

// labelOf: the label that a page's payload is; false if it is none.
func labelOf(payload string) (label, bool) {
	flags := payload[labelBytes-1]
	if payload[0] != labelMark || flags >= noBit || strings.Trim(payload[labelBytes:], "\x00") != "" {
		return label{}, false
	}
	l := label{
		id:      numberAt(payload[1:]),
		turn:    numberAt(payload[1+numberBytes:]),
		single:  flags&singleBit != 0,
		changed: flags&changedBit != 0,
	}
	if !isNumber(l.id) || !isNumber(l.turn) {
		return label{}, false
	}
	return l, true
}

func appendNumber(text []byte, n int) []byte {
	for i := numberBytes - 1; i >= 0; i-- {
		text = append(text, byte(n>>(8*i)))
	}
	return text
}

// numberAt: the number at the beginning of a text; one that no int holds is a negative one.
func numberAt(text string) int {
	n := uint64(0)
	for i := range numberBytes {
		n = n<<8 | uint64(text[i])
	}
	return int(n)
}
