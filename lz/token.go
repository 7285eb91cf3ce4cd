package lz

import "chert/api"

const (
	mostLiteral = 128 // bytes that one token holds
	mostCopy    = 130 // bytes that one token repeats
	firstCopy   = 128 // the first byte of the tokens that repeat
	copyOffset  = 125 // what that byte has beyond the number of bytes
	copyBytes   = 3   // of a token that repeats
)

// worthwhile: from so many bytes on a copy is shorter than the bytes themselves.
const worthwhile = copyBytes + 1

// packer makes the tokens of a text.
type packer struct {
	text   string
	tokens []byte
	done   int             // how many bytes the tokens stand for
	latest map[[3]byte]int // where three bytes began last
}

// pack: the tokens of a text.
func pack(text string) string {
	p := &packer{text: text, latest: map[[3]byte]int{}}
	for at := 0; at < len(text); {
		from, n := p.repeated(at)
		if n < worthwhile {
			n = 1
		} else {
			p.literals(at)
			p.copy(at-from, n)
		}
		for end := at + n; at < end; at++ {
			p.note(at)
		}
	}
	p.literals(len(text))
	return string(p.tokens)
}

// repeated: where the bytes at a position stand before it too, and how many of them.
func (p *packer) repeated(at int) (int, int) {
	start, ok := p.three(at)
	if !ok {
		return 0, 0
	}
	from, ok := p.latest[start]
	if !ok {
		return 0, 0
	}
	n := len(start)
	for n < mostCopy && at+n < len(p.text) && p.text[from+n] == p.text[at+n] {
		n++
	}
	return from, n
}

// note: a later position may repeat what begins here.
func (p *packer) note(at int) {
	if start, ok := p.three(at); ok {
		p.latest[start] = at
	}
}

func (p *packer) three(at int) ([3]byte, bool) {
	if at+3 > len(p.text) {
		return [3]byte{}, false
	}
	return [3]byte{p.text[at], p.text[at+1], p.text[at+2]}, true
}

// literals: tokens for the bytes up to a position that have none.
func (p *packer) literals(end int) {
	for p.done < end {
		n := min(end-p.done, mostLiteral)
		p.tokens = append(p.tokens, byte(n-1))
		p.tokens = append(p.tokens, p.text[p.done:p.done+n]...)
		p.done += n
	}
}

// copy: the token for bytes that stand some way back too.
func (p *packer) copy(back, n int) {
	d := back - 1
	p.tokens = append(p.tokens, byte(n+copyOffset), byte(d), byte(d>>8))
	p.done += n
}

// unpack: the text that tokens stand for.
func unpack(tokens string, most int) (string, api.Errno) {
	var text []byte
next:
	if tokens == "" {
		return string(text), api.OK
	}
	size := tokenBytes(tokens[0])
	if len(tokens) < size {
		return "", api.ErrForm
	}
	token := tokens[:size]
	tokens = tokens[size:]
	if token[0] < firstCopy {
		text = append(text, token[1:]...)
	} else {
		from := len(text) - 1 - int(token[1]) - int(token[2])<<8
		if from < 0 {
			return "", api.ErrForm
		}
		text = repeat(text, from, int(token[0])-copyOffset)
	}
	if len(text) > most {
		return "", api.ErrLong
	}
	goto next
}

// tokenBytes: of the token that begins with this byte.
func tokenBytes(first byte) int {
	if first < firstCopy {
		return int(first) + 2
	}
	return copyBytes
}

// repeat: the text with n more bytes, each of which is the next one from a position on.
func repeat(text []byte, from, n int) []byte {
	for i := range n {
		text = append(text, text[from+i])
	}
	return text
}
