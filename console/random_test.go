package console_test

import (
	"fmt"
	"math/rand"
	"regexp"
	"slices"
	"strconv"
	"strings"
	"testing"

	"chert/api"
	"chert/console"
	"chert/world"
)

// A slow reading of the chapter's words, by regular expressions over the whole of a line.
var (
	bare       = `[^ "]+`
	quotedText = `"(?:[ !#-\[\]-~]|\\["\\]|\\x[0-9A-F][0-9A-F])*"`
	aField     = regexp.MustCompile(`(?s)^(?:` + quotedText + `|` + bare + `)`)
	wholeLine  = regexp.MustCompile(`(?s)^ *(?:(?:` + quotedText + `|` + bare + `)(?: +|$))*$`)
	aNumber    = regexp.MustCompile(`^(?:0|-?[1-9][0-9]{0,8})$`)
	anEscape   = regexp.MustCompile(`\\(?:["\\]|x..)`)
)

// slowTable is the chapter's.
const slowTable = `mkdir P
create P
link P Q
unlink P
rmdir P
rename P Q
truncate P S
write P O D
read P O S
readdir P
stat P
sync
fsync P
tick
unmount
mount
check
cut O S
spoil O S
wear O
noise O S
format`

// latin: each byte as a rune of the same number, since an expression's . is a whole rune.
func latin(text string) string {
	runes := make([]rune, len(text))
	for i := range len(text) {
		runes[i] = rune(text[i])
	}
	return string(runes)
}

func unlatin(text string) string {
	var b []byte
	for _, r := range text {
		b = append(b, byte(r))
	}
	return string(b)
}

// slowFields: the fields of a line as they stand there.
func slowFields(line string) ([]string, bool) {
	if !wholeLine.MatchString(line) {
		return nil, false
	}
	var all []string
	for line = strings.TrimLeft(line, " "); line != ""; line = strings.TrimLeft(line, " ") {
		f := aField.FindString(line)
		all, line = append(all, f), line[len(f):]
	}
	return all, true
}

func slowValue(field string) string {
	if field[0] != '"' {
		return unlatin(field)
	}
	return unlatin(anEscape.ReplaceAllStringFunc(field[1:len(field)-1], func(e string) string {
		if e[1] != 'x' {
			return e[1:]
		}
		b, _ := strconv.ParseUint(e[2:], 16, 8)
		return string(rune(b))
	}))
}

func slowLine(line string, s *console.Script) api.Errno {
	if line != "" && line[0] == '#' {
		return api.OK
	}
	fields, ok := slowFields(line)
	if !ok {
		return api.ErrForm
	}
	if len(fields) == 0 {
		return api.OK
	}
	if fields[0] == "geometry" {
		return slowGeometry(fields[1:], s)
	}
	for i, row := range strings.Split(slowTable, "\n") {
		if command := strings.Fields(row); command[0] == fields[0] {
			return slowAct(i+1, command[1:], fields[1:], s)
		}
	}
	return api.ErrCommand
}

func slowGeometry(fields []string, s *console.Script) api.Errno {
	var n []int
	for _, f := range fields {
		if !aNumber.MatchString(f) {
			return api.ErrArg
		}
		value, _ := strconv.Atoi(f)
		n = append(n, value)
	}
	if len(n) != 5 {
		return api.ErrArg
	}
	s.Geometry = api.Geometry{Blocks: n[0], Pages: n[1], Chunks: n[2], Chunk: n[3], T: n[4]}
	return api.OK
}

func slowAct(kind int, letters, fields []string, s *console.Script) api.Errno {
	if len(letters) != len(fields) {
		return api.ErrArg
	}
	a := world.Act{Kind: kind}
	for i, f := range fields {
		n, _ := strconv.Atoi(f)
		switch letters[i] {
		case "P":
			a.Path = slowValue(f)
		case "Q":
			a.To = slowValue(f)
		case "D":
			a.Data = slowValue(f)
		case "O":
			a.Offset = n
		case "S":
			a.Size = n
		}
		if strings.Contains("OS", letters[i]) && !aNumber.MatchString(f) {
			return api.ErrArg
		}
	}
	s.Acts = append(s.Acts, a)
	return api.OK
}

func slowParse(text string) (console.Script, console.Fault) {
	var s console.Script
	all := strings.Split(text, "\n")
	if all[len(all)-1] == "" {
		all = all[:len(all)-1]
	}
	for i, line := range all {
		if code := slowLine(latin(line), &s); code != api.OK {
			return console.Script{}, console.Fault{Code: code, Line: i + 1}
		}
	}
	return s, console.Fault{}
}

var someParts = []string{
	" ", "  ", "\n", `"`, `\`, `\\`, `\"`, `\x`, `\x4`, `\xFF`, `\x0a`, "#", "0", "1", "-", "-7", "00", "999999999", "1234567890", "a", "/f", "F", "x", "\t", "\r", "\x00", "\x7f", "\xff", "é",
	`""`, `"a"`, `"a b"`, `"\x20" `, `"1"`, "geometry ", "geometry 1 2 3 4 5\n", "mkdir ", "mkdir /a\n", "link ", "write ", "write /f 0 ", "read ", "sync", "sync\n", "cut ", "wear ", "noise 1 ", "truncate ", "format\n",
}

// TestSlow compares Parse with a slow reading, over texts that are put together at random.
func TestSlow(t *testing.T) {
	random := rand.New(rand.NewSource(1))
	told := map[api.Errno]int{}
	for range 60000 {
		var text strings.Builder
		for range random.Intn(12) {
			text.WriteString(someParts[random.Intn(len(someParts))])
		}
		compare(t, text.String(), told)
	}
	for _, code := range []api.Errno{api.OK, api.ErrForm, api.ErrCommand, api.ErrArg} {
		if told[code] < 1000 {
			t.Errorf("only %d of the texts come to %d", told[code], code)
		}
	}
}

// TestSlowDamaged compares them over texts that Show writes, with a few bytes changed.
func TestSlowDamaged(t *testing.T) {
	random := rand.New(rand.NewSource(2))
	told := map[api.Errno]int{}
	for range 20000 {
		text := []byte(console.Show(someScript(random)))
		for range random.Intn(4) {
			part := someParts[random.Intn(len(someParts))]
			at := random.Intn(len(text) + 1)
			text = slices.Replace(text, at, min(at+random.Intn(3), len(text)), []byte(part)...)
		}
		compare(t, string(text), told)
	}
	if told[api.OK] < 1000 || told[api.ErrForm] < 1000 || told[api.ErrArg] < 1000 || told[api.ErrCommand] < 1000 {
		t.Errorf("the texts come to %v", told)
	}
}

func compare(t *testing.T, text string, told map[api.Errno]int) {
	t.Helper()
	got, fault := console.Parse(text)
	want, wantFault := slowParse(text)
	if fault != wantFault || !alike(got, want) {
		t.Fatalf("Parse(%q) is %q and %v, not %q and %v", text, fmt.Sprint(got), fault, fmt.Sprint(want), wantFault)
	}
	told[fault.Code]++
}

func someText(random *rand.Rand) string {
	b := make([]byte, random.Intn(6))
	for i := range b {
		b[i] = byte(random.Intn(256))
		if random.Intn(2) > 0 {
			b[i] = ` "\x0Fa/#`[random.Intn(9)]
		}
	}
	return string(b)
}

func someNumber(random *rand.Rand) int {
	n := random.Intn(1 << random.Intn(30))
	if random.Intn(3) == 0 {
		return -(n % 1000000000)
	}
	return n % 1000000000
}

// someScript: one that its text tells whole.
func someScript(random *rand.Rand) console.Script {
	var s console.Script
	s.Geometry = api.Geometry{Blocks: someNumber(random), Pages: someNumber(random), Chunks: someNumber(random), Chunk: someNumber(random), T: someNumber(random)}
	table := strings.Split(slowTable, "\n")
	for range random.Intn(5) {
		a := world.Act{Kind: 1 + random.Intn(22)}
		for _, letter := range strings.Fields(table[a.Kind-1])[1:] {
			switch letter {
			case "P":
				a.Path = someText(random)
			case "Q":
				a.To = someText(random)
			case "D":
				a.Data = someText(random)
			case "O":
				a.Offset = someNumber(random)
			case "S":
				a.Size = someNumber(random)
			}
		}
		s.Acts = append(s.Acts, a)
	}
	return s
}

// TestShowIsParsed: Parse answers what Show was given.
func TestShowIsParsed(t *testing.T) {
	random := rand.New(rand.NewSource(3))
	for range 20000 {
		s := someScript(random)
		text := console.Show(s)
		checkParse(t, text, s)
		if strings.ContainsFunc(text, func(r rune) bool { return r != '\n' && (r < ' ' || r > '~') }) {
			t.Fatalf("Show is %q", text)
		}
	}
	edges := console.Script{Geometry: api.Geometry{Blocks: 999999999, Pages: -999999999}}
	var bytes []byte
	for b := range 256 {
		bytes = append(bytes, byte(b))
	}
	edges.Acts = append(edges.Acts, world.Act{Kind: world.Write, Path: string(bytes), Offset: -999999999, Data: string(bytes)})
	checkParse(t, console.Show(edges), edges)
	checkParse(t, console.Show(console.Script{}), console.Script{})
	edges.Geometry.T = 1000000000
	checkFault(t, console.Show(edges), api.ErrArg, 1)
}
