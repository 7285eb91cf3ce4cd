package index

import "chert/api"

// loader gathers the entries of all leaves.
type loader struct {
	source  Source
	reached map[int]struct{} // the pages that entries led to
	entries []entry
}

// take gathers the entries of the leaves that a page leads to. An error of the source does not end it, since ErrForm goes before that.
func (l *loader) take(p page) api.Errno {
	if p.level == 0 {
		return l.takeLeaf(p)
	}
	failed := api.OK
	for i := range p.entries {
		err := l.below(p, i)
		if err == api.ErrForm {
			return err
		}
		if failed == api.OK {
			failed = err
		}
	}
	return failed
}

// below gathers the entries of the leaves that an entry of a page leads to.
func (l *loader) below(p page, i int) api.Errno {
	n, _ := p.leads(i)
	if _, again := l.reached[n]; again {
		return api.ErrForm
	}
	l.reached[n] = struct{}{}
	q, err := p.below(l.source, i)
	if err != api.OK {
		return err
	}
	return l.take(q)
}

// takeLeaf gathers the entries of a leaf.
func (l *loader) takeLeaf(p page) api.Errno {
	if last := len(l.entries) - 1; last >= 0 && l.entries[last].key >= p.entries[0].key {
		return api.ErrForm
	}
	l.entries = append(l.entries, p.entries...)
	return api.OK
}
