package journal

import (
	"chert/api"
	"chert/node"
)

// encoded: the nodes of a group as texts; false if it is no group, or one of them is not valid or fits no page.
func (j *Journal) encoded(group []node.Node) ([]string, bool) {
	_, size := j.volume.Room(true)
	var texts []string
	for i, n := range group {
		text, ok := node.Encode(n)
		if !ok || len(text) > size || n.Last != (i == len(group)-1) {
			return nil, false
		}
		texts = append(texts, text)
	}
	return texts, len(texts) > 0
}

// putAll packs the nodes of a group. Read sees none of them as held unless all could be packed.
func (j *Journal) putAll(texts []string) ([]Place, api.Errno) {
	var places []Place
	held, heldAt := j.held, j.heldAt
	for _, text := range texts {
		p, err := j.put(text)
		if err != api.OK {
			return nil, err
		}
		if p.At == 0 {
			held, heldAt = "", p
		}
		held += text
		places = append(places, p)
	}
	j.held, j.heldAt = held, heldAt
	return places, api.OK
}

// put packs a node: its place.
func (j *Journal) put(text string) (Place, api.Errno) {
	if page, full, _ := j.packer.Add(text); full {
		if err := j.write(page); err != api.OK {
			return Place{}, err
		}
	}
	bytes, _ := j.packer.Held()
	at := bytes - len(text)
	if at == 0 {
		if err := j.makeRoom(); err != api.OK {
			return Place{}, err
		}
	}
	page, _ := j.volume.Count(j.id)
	return Place{ID: j.id, Page: page, At: at}, api.OK
}

// write: the page that was held lies on the volume, unless there is an error.
func (j *Journal) write(page string) api.Errno {
	err := j.volume.Append(j.id, page)
	if err == api.OK {
		j.held = ""
	}
	return err
}

// makeRoom: the open block has room for one more page, or else the next one is mapped.
func (j *Journal) makeRoom() api.Errno {
	if _, closed := j.volume.Count(j.id); j.used > 0 && !closed {
		return api.OK
	}
	id, ok := ID(j.gen, j.used)
	if !ok {
		return api.ErrFull
	}
	if err := j.volume.Map(id, true); err != api.OK {
		return err
	}
	label, _ := node.PutLabel(labelOf(j.gen, j.used))
	j.id = id
	j.used++
	return j.volume.Append(id, label)
}
