package fs

import (
	"chert/api"
	"chert/journal"
	"chert/key"
	"chert/leb"
	"chert/node"
	"chert/ops"
	"chert/pack"
	"chert/space"
)

// log is the journal of a generation, and what the journal itself does not tell: how far it is filled, and where pieces lie in it.
type log struct {
	plan    space.Plan
	first   int // the number of its first logical block
	journal *journal.Journal
	places  map[string]journal.Place // of the pieces that it has, by their keys
	written int                      // pages
	held    int                      // bytes of the page that is not written yet: all that a power loss may take
	ended   bool                     // it takes nothing
}

func newLog(v *leb.Volume, l layout) *log {
	first, _ := journal.ID(l.gen, 0)
	return &log{plan: l.plan, first: first, journal: journal.New(v, l.gen), places: map[string]journal.Place{}}
}

// append writes changes as a group. ErrFull: it takes no more.
func (l *log) append(changes []ops.Change) api.Errno {
	group, sizes := groupOf(changes)
	if l.ended || !l.hasRoom(sizes) {
		return api.ErrFull
	}
	places, err := l.journal.Append(group)
	if err != api.OK {
		return refusal(err)
	}
	for i, c := range changes {
		if c.Key.Kind == key.Data {
			l.places[group[i].Key] = places[i]
		}
	}
	last := len(places) - 1
	l.written = (places[last].ID-l.first)*l.plan.Single + places[last].Page - firstPage
	l.held = places[last].At + sizes[last]
	return api.OK
}

// sync: a power loss takes nothing of it any more. ErrFull: what it has can't be written.
func (l *log) sync() api.Errno {
	if l.held == 0 {
		return api.OK
	}
	if err := l.journal.Sync(); err != api.OK {
		return refusal(err)
	}
	l.written++
	l.held = 0
	return api.OK
}

// refusal: what an error comes to that ended the journal. Blocks that are worn are as good as none.
func refusal(err api.Errno) api.Errno {
	if err == api.ErrPower {
		return err
	}
	return api.ErrFull
}

// hasRoom: do nodes of these sizes fit into the blocks that are the journal's?
func (l *log) hasRoom(sizes []int) bool {
	lengths := sizes
	if l.held > 0 {
		lengths = append([]int{l.held}, sizes...)
	}
	pages, _ := pack.Pages(l.plan.Bytes, lengths...)
	return l.written+pages <= l.plan.Journal*l.plan.Single
}

// groupOf: changes as the nodes of a group, and the sizes of these.
func groupOf(changes []ops.Change) ([]node.Node, []int) {
	group := make([]node.Node, len(changes))
	sizes := make([]int, len(changes))
	for i, c := range changes {
		text, _ := key.Encode(c.Key)
		group[i] = node.Node{Key: text, Value: c.Text, Gone: c.Gone, Last: i == len(changes)-1}
		encoded, _ := node.Encode(group[i])
		sizes[i] = len(encoded)
	}
	return group, sizes
}
