package console

import (
	"strconv"
	"strings"

	"chert/api"
	"chert/world"
)

// lineError is the fault of a line.
type lineError struct {
	fault Fault
}

func (e lineError) Error() string {
	return "line " + strconv.Itoa(e.fault.Line) + ": error " + strconv.Itoa(int(e.fault.Code))
}

// reader reads a text line by line, and fills a script.
type reader struct {
	Script
	line int // the number of the line that is read
}

// read reads a text up to the first line that is wrong.
func (r *reader) read(text string) error {
	for text != "" {
		line, rest, _ := strings.Cut(text, "\n")
		text = rest
		r.line++
		if err := r.take(line); err != nil {
			return err
		}
	}
	return nil
}

// take does what a line says.
func (r *reader) take(line string) error {
	if strings.HasPrefix(line, "#") {
		return nil
	}
	fields, ok := split(line)
	if !ok {
		return r.wrong(api.ErrForm)
	}
	if len(fields) == 0 {
		return nil
	}
	kind, ok := kindOf(fields[0])
	if !ok {
		return r.wrong(api.ErrCommand)
	}
	if !r.add(kind, fields[1:]) {
		return r.wrong(api.ErrArg)
	}
	return nil
}

// wrong: that the line has a fault.
func (r *reader) wrong(code api.Errno) error {
	return lineError{Fault{Code: code, Line: r.line}}
}

// add adds to the script what a command and the fields behind it say, if they are what it takes.
func (r *reader) add(kind int, fields []field) bool {
	if kind == geometry {
		g, ok := geometryOf(fields)
		if ok {
			r.Geometry = g
		}
		return ok
	}
	act, ok := actOf(kind, fields)
	if ok {
		r.Acts = append(r.Acts, act)
	}
	return ok
}

// geometryOf: the geometry of five numbers.
func geometryOf(fields []field) (api.Geometry, bool) {
	var g api.Geometry
	places := sizes(&g)
	if len(fields) != len(places) {
		return api.Geometry{}, false
	}
	for i, place := range places {
		n, ok := fields[i].number()
		if !ok {
			return api.Geometry{}, false
		}
		*place = n
	}
	return g, true
}

// actOf: the act of a kind and its fields.
func actOf(kind int, fields []field) (world.Act, bool) {
	act := world.Act{Kind: kind}
	letters := commands[kind].fields
	if len(fields) != len(letters) {
		return world.Act{}, false
	}
	for i, f := range fields {
		if !put(&act, letters[i], f) {
			return world.Act{}, false
		}
	}
	return act, true
}

// put gives an act the field of a letter, if it is one that the letter takes.
func put(a *world.Act, letter byte, f field) bool {
	if text := textOf(a, letter); text != nil {
		*text = f.value
		return true
	}
	n, ok := f.number()
	*numberOf(a, letter) = n
	return ok
}
