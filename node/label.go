package node

import (
	"chert/crc"
	"chert/numbers"
)

const (
	kindBytes  = 1
	labelBytes = kindBytes + 3*numberBytes + sumBytes
)

// Label is what the first page of a logical block of the file system says.
type Label struct {
	Kind        byte
	Gen, Number int
	Total       int
}

// PutLabel: a label as bytes.
func PutLabel(l Label) (string, bool) {
	if !l.isValid() {
		return "", false
	}
	return crc.Seal(string([]byte{l.Kind}) + numbers.Join(numberBytes, l.Gen, l.Number, l.Total)), true
}

// GetLabel: the label that a text begins with.
func GetLabel(s string) (Label, bool) {
	if len(s) < labelBytes {
		return Label{}, false
	}
	text, ok := crc.Open(s[:labelBytes])
	if !ok {
		return Label{}, false
	}
	n := numbers.Split(numberBytes, text[kindBytes:])
	l := Label{Kind: text[0], Gen: n[0], Number: n[1], Total: n[2]}
	if !l.isValid() {
		return Label{}, false
	}
	return l, true
}

func (l Label) isValid() bool {
	return l.Kind >= 'A' && l.Kind <= 'Z' && numbers.Valid(l.Gen, l.Number, l.Total)
}
