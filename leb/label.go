package leb

import (
	"strings"

	"chert/numbers"
)

const (
	labelMark   = "L"
	numberBytes = 8
	flagBytes   = 1
	flagsAt     = len(labelMark) + 2*numberBytes
	labelBytes  = flagsAt + flagBytes
)

// The bits of a label's last byte.
const (
	singleBit = 1 << iota
	changedBit
	noBit // and all above it
)

// label is what the first page of a logical block tells of it.
type label struct {
	id, turn        int
	single, changed bool // changed: Change wrote it
}

// payload: the label as it is written.
func (l label) payload() string {
	flags := 0
	if l.single {
		flags |= singleBit
	}
	if l.changed {
		flags |= changedBit
	}
	return labelMark + numbers.Join(numberBytes, l.id, l.turn) + numbers.Join(flagBytes, flags)
}

// labelOf: the label that a page's payload is; false if it is none.
func labelOf(payload string) (label, bool) {
	flags := payload[flagsAt]
	if !strings.HasPrefix(payload, labelMark) || flags >= noBit || strings.Trim(payload[labelBytes:], "\x00") != "" {
		return label{}, false
	}
	n := numbers.Split(numberBytes, payload[len(labelMark):flagsAt])
	if !numbers.Valid(n...) {
		return label{}, false
	}
	return label{id: n[0], turn: n[1], single: flags&singleBit != 0, changed: flags&changedBit != 0}, true
}
