package leb

import (
	"chert/api"
	"chert/page"
	"chert/parity"
	"chert/wear"
)

// stored is a logical block on a block of the chip.
type stored struct {
	label
	block   int // of the chip
	plan    parity.Plan
	pages   int // that were written, beside the label
	closed  bool
	guarded bool      // it has its parities
	sums    [2]string // of each group, of what was written, while it is open
}

func (s stored) full() bool { return s.pages == roomOf(s.plan) }

// openOne: a logical block that can be written.
func (v *Volume) openOne(id int) (stored, api.Errno) {
	if v == nil {
		return stored{}, api.ErrArg
	}
	s, exists := v.stored[id]
	if !exists {
		return stored{}, api.ErrUnmapped
	}
	if s.closed {
		return stored{}, api.ErrClosed
	}
	return s, api.OK
}

// settle keeps what became of an open block; on a worn one the last writes are lost, and no more can be made.
func (v *Volume) settle(before, after stored, err api.Errno) api.Errno {
	switch err {
	case api.OK:
		v.stored[after.id] = after
	case api.ErrWorn:
		before.closed, before.sums = true, [2]string{}
		v.stored[before.id] = before
	}
	return err
}

// place: a logical block with these pages, on a block that can be written; it stays open only if it was not written by Change and has room.
func (v *Volume) place(l label, payloads []string) (stored, api.Errno) {
again:
	b := wear.Pick(v.Blocks())
	if b < 0 || v.turn >= api.MaxNumber {
		return stored{}, api.ErrFull
	}
	s, err := v.begin(b, l)
	for _, payload := range payloads {
		if err == api.OK {
			s, err = v.extend(s, payload)
		}
	}
	if err == api.OK && (l.changed || s.full()) {
		s, err = v.finish(s)
	}
	if err == api.ErrWorn {
		goto again
	}
	return s, err
}

// begin: an open logical block on a free block.
func (v *Volume) begin(b int, l label) (stored, api.Errno) {
	l.turn = v.turn + 1
	if err := v.writeFirst(b, l.payload()); err != api.OK {
		return stored{}, err
	}
	v.turn = l.turn
	return stored{label: l, block: b, plan: v.plan(l.single), sums: [2]string{l.payload(), ""}}, api.OK
}

// writeFirst: the chip alone knows whether a block was used since it was erased, for a torn write may have left nothing that can be read.
func (v *Volume) writeFirst(b int, payload string) api.Errno {
	err := v.write(b, 0, payload)
	if err != api.ErrOrder {
		return err
	}
	if err := v.erase(b); err != api.OK {
		return err
	}
	return v.write(b, 0, payload)
}

// extend: the block with one more page.
func (v *Volume) extend(s stored, payload string) (stored, api.Errno) {
	n := s.plan.Data[s.pages+1]
	if err := v.write(s.block, n, payload); err != api.OK {
		return s, err
	}
	group := parity.Group(n)
	s.sums[group] = parity.Xor(v.size, s.sums[group], payload)
	s.pages++
	return s, api.OK
}

// finish: the block with its parities, closed.
func (v *Volume) finish(s stored) (stored, api.Errno) {
	for group, n := range s.plan.Parity {
		if err := v.write(s.block, n, s.sums[group]); err != api.OK {
			return s, err
		}
	}
	s.closed, s.guarded, s.sums = true, true, [2]string{}
	return s, api.OK
}

func (v *Volume) write(b, n int, payload string) api.Errno {
	if v.off {
		return api.ErrPower
	}
	return v.told(b, v.pager.Write(b, n, payload))
}

func (v *Volume) erase(b int) api.Errno {
	if v.off {
		return api.ErrPower
	}
	return v.told(b, v.chip.Erase(b))
}

func (v *Volume) read(b, n int) (page.Found, api.Errno) {
	if v.off {
		return page.Found{}, api.ErrPower
	}
	found, err := v.pager.Read(b, n)
	return found, v.told(b, err)
}

// told keeps what the chip's answer says beyond the call.
func (v *Volume) told(b int, err api.Errno) api.Errno {
	switch err {
	case api.ErrPower:
		v.off = true
	case api.ErrWorn:
		v.worn[b] = true
	}
	return err
}
