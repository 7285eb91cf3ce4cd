package console

import (
	"chert/api"
	"chert/world"
)

// command is a word, and a letter for each field of an act that follows it: P, Q and D for texts, O and S for numbers.
type command struct {
	word, fields string
}

// geometry is the command that is no act. It has the place of kind 0, of which there is no act, and no letters.
const geometry = 0

// commands holds that of each kind.
var commands = [world.Format + 1]command{
	geometry:       {word: "geometry"},
	world.Mkdir:    {"mkdir", "P"},
	world.Create:   {"create", "P"},
	world.Link:     {"link", "PQ"},
	world.Unlink:   {"unlink", "P"},
	world.Rmdir:    {"rmdir", "P"},
	world.Rename:   {"rename", "PQ"},
	world.Truncate: {"truncate", "PS"},
	world.Write:    {"write", "POD"},
	world.Read:     {"read", "POS"},
	world.Readdir:  {"readdir", "P"},
	world.Stat:     {"stat", "P"},
	world.Sync:     {"sync", ""},
	world.Fsync:    {"fsync", "P"},
	world.Tick:     {"tick", ""},
	world.Unmount:  {"unmount", ""},
	world.Mount:    {"mount", ""},
	world.Check:    {"check", ""},
	world.Cut:      {"cut", "OS"},
	world.Spoil:    {"spoil", "OS"},
	world.Wear:     {"wear", "O"},
	world.Noise:    {"noise", "OS"},
	world.Format:   {"format", ""},
}

// kindOf: which command a field is, if it is one.
func kindOf(f field) (int, bool) {
	for kind, c := range commands {
		if !f.quoted && f.value == c.word {
			return kind, true
		}
	}
	return 0, false
}

func isAct(kind int) bool { return kind >= world.Mkdir && kind <= world.Format }

// sizes: where the numbers of a geometry stand, in their order.
func sizes(g *api.Geometry) [5]*int {
	return [5]*int{&g.Blocks, &g.Pages, &g.Chunks, &g.Chunk, &g.T}
}

// textOf: where an act has the text of a letter, or nil if the letter is that of a number.
func textOf(a *world.Act, letter byte) *string {
	switch letter {
	case 'P':
		return &a.Path
	case 'Q':
		return &a.To
	case 'D':
		return &a.Data
	}
	return nil
}

// numberOf: where an act has the number of a letter.
func numberOf(a *world.Act, letter byte) *int {
	if letter == 'O' {
		return &a.Offset
	}
	return &a.Size
}
