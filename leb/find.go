package leb

import (
	"chert/api"
	"chert/page"
	"chert/parity"
)

// find takes the logical blocks that the chip holds, and erases the others that have a label, so that no later Attach takes one of them.
func (v *Volume) find() api.Errno {
	var needless []int
	for b := range v.pager.Blocks {
		l, ok, err := v.labelOn(b)
		if err != api.OK {
			return err
		}
		if !ok {
			continue
		}
		v.turn = max(v.turn, l.turn)
		s, err := v.found(b, l)
		if err != api.OK {
			return err
		}
		if other, left := v.take(s); left {
			needless = append(needless, other)
		}
	}
	for _, b := range needless {
		if v.erase(b) == api.ErrPower {
			return api.ErrPower
		}
	}
	return api.OK
}

// take keeps a block that was found, unless another is to be kept in its place: the block that is not needed, and whether there is one.
func (v *Volume) take(s stored) (int, bool) {
	if s.changed && !s.guarded {
		return s.block, true
	}
	old, exists := v.stored[s.id]
	if exists && old.turn >= s.turn {
		return s.block, true
	}
	v.stored[s.id] = s
	return old.block, exists
}

// labelOn: the label of a block; false if it has none.
func (v *Volume) labelOn(b int) (label, bool, api.Errno) {
	found, err := v.read(b, 0)
	if err == api.OK && found.State == page.Bad {
		found, err = v.restoreFirst(b)
	}
	if err != api.OK || found.State != page.Good {
		return label{}, false, err
	}
	l, ok := labelOf(found.Payload)
	return l, ok, api.OK
}

// restoreFirst: what the first page of a block held, by the other pages of its group; not Good if they don't tell.
func (v *Volume) restoreFirst(b int) (page.Found, api.Errno) {
	plan := v.plan(true) // the label would say whether it is so, but group 0 has the same pages either way
	sum, err := v.read(b, plan.Parity[0])
	if err != api.OK || sum.State != page.Good {
		return page.Found{}, err
	}
	payload := sum.Payload
	for _, n := range plan.Data[1:] {
		found, err := v.read(b, n)
		if err != api.OK || found.State == page.Bad {
			return page.Found{}, err
		}
		payload = parity.Xor(v.size, payload, found.Payload)
	}
	return page.Found{State: page.Good, Payload: payload}, api.OK
}

// found: the logical block on a block with this label.
func (v *Volume) found(b int, l label) (stored, api.Errno) {
	s := stored{label: l, block: b, plan: v.plan(l.single), closed: true}
	last, err := v.read(b, s.plan.Parity[len(s.plan.Parity)-1])
	if err != api.OK {
		return stored{}, err
	}
	s.guarded = last.State != page.Empty
	for _, n := range s.plan.Data[1:] {
		found, err := v.read(b, n)
		if err != api.OK {
			return stored{}, err
		}
		if found.State == page.Empty {
			break
		}
		s.pages++
	}
	return s, api.OK
}

// restore: what a page held that is lost, by the others of its group.
func (v *Volume) restore(s stored, lost int) (string, api.Errno) {
	group := parity.Group(lost)
	written := parity.Plan{Data: s.plan.Data[:s.pages+1]}
	var payloads []string
	for _, n := range append(written.Members(group), s.plan.Parity[group]) {
		if n == lost {
			continue
		}
		found, err := v.read(s.block, n)
		if err != api.OK {
			return "", err
		}
		if found.State != page.Good {
			return "", api.ErrIO
		}
		payloads = append(payloads, found.Payload)
	}
	return parity.Xor(v.size, payloads...), api.OK
}
