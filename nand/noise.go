package nand

import "slices"

// mostNoise: how many bits of a piece turn at most, whatever is asked for.
const mostNoise = 64

// What a number of the place of a piece is multiplied by, so that it stirs all bits.
const (
	readFactor  uint64 = 0x9E3779B97F4A7C15
	blockFactor uint64 = 0xC2B2AE3D27D4EB4F
	pageFactor  uint64 = 0x165667B19E3779F9
	pieceFactor uint64 = 0x27D4EB2F165667C5
)

// The steps from one bit that turns to the next.
const (
	stepFactor uint64 = 6364136223846793005
	stepTerm   uint64 = 1442695040888963407
)

// noise turns bits in what is read: in each piece at most so many.
type noise struct {
	seed        uint64
	most, piece int
}

// disturb turns the bits of data, which is the reads-th read of block b since its erase, of page p.
func (n noise) disturb(data []byte, reads, b, p int) {
	if n.most < 1 || n.piece < 1 {
		return
	}
	place := n.seed ^ uint64(reads)*readFactor ^ uint64(b)*blockFactor ^ uint64(p)*pageFactor
	index := uint64(0)
	for piece := range slices.Chunk(data, n.piece) {
		n.disturbPiece(piece, place^index*pieceFactor)
		index++
	}
}

// disturbPiece turns the bits that follow from h.
func (n noise) disturbPiece(piece []byte, h uint64) {
	for range drawn(h, n.most) + 1 {
		h = h*stepFactor + stepTerm
		bit := drawn(h, 8*len(piece))
		piece[bit/8] ^= 1 << (bit % 8)
	}
}

// drawn: the number from 0 to below - 1 that h stands for.
func drawn(h uint64, below int) int { return int((h >> 33) % uint64(below)) }
