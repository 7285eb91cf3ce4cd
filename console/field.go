package console

import (
	"strconv"
	"strings"
)

// mostDigits is how many digits a number has at most.
const mostDigits = 9

// digits are those of a byte in a quoted text.
const digits = "0123456789ABCDEF"

// field is one of a line: what it stands for, and whether it was quoted.
type field struct {
	value  string
	quoted bool
}

// split: the fields of a line, if they can be determined.
func split(line string) ([]field, bool) {
	var all []field
next:
	line = strings.TrimLeft(line, " ")
	if line == "" {
		return all, true
	}
	f, rest, ok := first(line)
	if !ok || rest != "" && rest[0] != ' ' {
		return nil, false
	}
	all, line = append(all, f), rest
	goto next
}

// first: the field at the beginning of a line, and what comes behind it.
func first(line string) (field, string, bool) {
	if line[0] == '"' {
		value, rest, ok := unquote(line[1:])
		return field{value, true}, rest, ok
	}
	end := strings.IndexAny(line, ` "`)
	if end < 0 {
		end = len(line)
	}
	return field{value: strings.Clone(line[:end])}, line[end:], true
}

// unquote: the bytes for which a text stands up to its closing quote, and what comes behind that.
func unquote(text string) (string, string, bool) {
	var value []byte
	for text != "" && isPlain(text[0]) {
		b, size := text[0], 1
		switch b {
		case '"':
			return string(value), text[1:], true
		case '\\':
			b, size = escaped(text)
		}
		if size == 0 {
			return "", "", false
		}
		value, text = append(value, b), text[size:]
	}
	return "", "", false
}

// escaped: the byte for which a text stands that begins with a backslash, and how many bytes tell it: none if it stands for no byte.
func escaped(text string) (byte, int) {
	if len(text) > 1 && isMark(text[1]) {
		return text[1], 2
	}
	if len(text) < 4 || text[1] != 'x' {
		return 0, 0
	}
	high, low := strings.IndexByte(digits, text[2]), strings.IndexByte(digits, text[3])
	if high < 0 || low < 0 {
		return 0, 0
	}
	return byte(high<<4 | low), 4
}

// quote: a text as a quoted field.
func quote(text string) string {
	quoted := []byte{'"'}
	for i := range len(text) {
		b := text[i]
		switch {
		case isMark(b):
			quoted = append(quoted, '\\', b)
		case isPlain(b):
			quoted = append(quoted, b)
		default:
			quoted = append(quoted, '\\', 'x', digits[b>>4], digits[b&15])
		}
	}
	return string(append(quoted, '"'))
}

// isPlain: may a byte stand in a quoted text?
func isPlain(b byte) bool { return b >= ' ' && b <= '~' }

// isMark: does a byte that stands for itself need a backslash before it?
func isMark(b byte) bool { return b == '"' || b == '\\' }

// number: what a field says, if it is a number in the one form that there is of each.
func (f field) number() (int, bool) {
	if f.quoted || len(strings.TrimPrefix(f.value, "-")) > mostDigits {
		return 0, false
	}
	n, err := strconv.Atoi(f.value)
	if err != nil || strconv.Itoa(n) != f.value {
		return 0, false
	}
	return n, true
}
