package space

import "slices"

// Ledger counts what lives in each logical block.
type Ledger struct {
	live map[int]int // the bytes of each logical block that ever held something
	all  int
}

// Add: so many bytes of a logical block live.
func (l *Ledger) Add(id, bytes int) {
	if l == nil || bytes < 1 {
		return
	}
	if l.live == nil {
		l.live = map[int]int{}
	}
	l.live[id] += bytes
	l.all += bytes
}

// Take: they don't any more.
func (l *Ledger) Take(id, bytes int) bool {
	if l == nil || bytes < 1 || l.live[id] < bytes {
		return false
	}
	l.live[id] -= bytes
	l.all -= bytes
	return true
}

// Live: the bytes that live in a logical block, and in all.
func (l *Ledger) Live(id int) (int, int) {
	if l == nil {
		return 0, 0
	}
	return l.live[id], l.all
}

// Dead: the logical blocks in which nothing lives any more, of those that ever held something.
func (l *Ledger) Dead() []int {
	if l == nil {
		return nil
	}
	var ids []int
	for id, bytes := range l.live {
		if bytes == 0 {
			ids = append(ids, id)
		}
	}
	slices.Sort(ids)
	return ids
}
