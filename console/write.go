package console

import (
	"strconv"
	"strings"

	"chert/api"
	"chert/world"
)

// lineOf: fields as a line.
func lineOf(fields ...string) string { return strings.Join(fields, " ") + "\n" }

func showGeometry(g api.Geometry) string {
	fields := []string{commands[geometry].word}
	for _, size := range sizes(&g) {
		fields = append(fields, strconv.Itoa(*size))
	}
	return lineOf(fields...)
}

func showAct(a world.Act) string {
	c := commands[a.Kind]
	fields := []string{c.word}
	for i := range len(c.fields) {
		fields = append(fields, showField(&a, c.fields[i]))
	}
	return lineOf(fields...)
}

func showField(a *world.Act, letter byte) string {
	if text := textOf(a, letter); text != nil {
		return quote(*text)
	}
	return strconv.Itoa(*numberOf(a, letter))
}

func reportTold(t world.Told) string {
	code := strconv.Itoa(int(t.Code))
	if isCode(t) {
		return lineOf(code)
	}
	kind := "file"
	if t.Dir {
		kind = "dir"
	}
	fields := []string{code, quote(t.Data), strconv.Itoa(t.Number), strconv.Itoa(t.Links), strconv.Itoa(t.Size), kind}
	for _, name := range t.Names {
		fields = append(fields, quote(name))
	}
	return lineOf(fields...)
}

// isCode: is nothing told but a code?
func isCode(t world.Told) bool {
	return t.Data == "" && len(t.Names) == 0 && t.Number == 0 && t.Links == 0 && t.Size == 0 && !t.Dir
}
