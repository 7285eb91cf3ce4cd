package page

import (
	"math/bits"
	"strings"

	"chert/crc"
)

// body: the chunks' bytes for a payload that is not too long.
func (p *Pager) body(payload string) string {
	padding := strings.Repeat("\x00", payloadBytes(p.Geometry)-len(payload))
	return crc.Seal(mark + payload + padding)
}

// raw: the page with a body.
func (p *Pager) raw(body string) string {
	var raw strings.Builder
	for i := range p.Chunks {
		chunk := body[i*p.Chunk : (i+1)*p.Chunk]
		parity, _ := p.code.Encode(chunk)
		raw.WriteString(chunk)
		raw.WriteString(parity)
	}
	return raw.String()
}

// protectedChunks: each chunk of a page, with its parity behind it. New takes a chip with pages of any size, so the last ones may be cut short.
func (p *Pager) protectedChunks(raw string) []string {
	size := p.Chunk + p.code.Parity()
	list := make([]string, p.Chunks)
	for i := range list {
		list[i] = raw[min(i*size, len(raw)):min((i+1)*size, len(raw))]
	}
	return list
}

// isEmpty: has each chunk no more bits 0 than can have turned?
func (p *Pager) isEmpty(protected []string) bool {
	for _, s := range protected {
		if zeroBits(s) > p.T {
			return false
		}
	}
	return true
}

// decode: the body and how many bits had turned; false if a chunk is lost.
func (p *Pager) decode(protected []string) (string, int, bool) {
	var body strings.Builder
	total := 0
	for _, s := range protected {
		end := min(p.Chunk, len(s))
		chunk, _, turned, ok := p.code.Decode(s[:end], s[end:])
		if !ok {
			return "", 0, false
		}
		body.WriteString(chunk)
		total += turned
	}
	return body.String(), total, true
}

func zeroBits(s string) int {
	n := 0
	for i := range len(s) {
		n += bits.OnesCount8(^s[i])
	}
	return n
}
