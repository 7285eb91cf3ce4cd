package console_test

import (
	"fmt"
	"math"
	"reflect"
	"slices"
	"strings"
	"testing"

	"chert/api"
	"chert/console"
	"chert/world"
)

func checkParse(t *testing.T, text string, want console.Script) {
	t.Helper()
	got, fault := console.Parse(text)
	if fault != (console.Fault{}) {
		t.Errorf("Parse(%.200q) tells %v", text, fault)
	} else if !alike(got, want) {
		t.Errorf("Parse(%.200q) is %.300q, not %.300q", text, fmt.Sprint(got), fmt.Sprint(want))
	}
}

// alike: an empty list is one whether nil or not.
func alike(a, b console.Script) bool {
	return a.Geometry == b.Geometry && slices.Equal(a.Acts, b.Acts)
}

func checkActs(t *testing.T, text string, want ...world.Act) {
	t.Helper()
	checkParse(t, text, console.Script{Acts: want})
}

func checkFault(t *testing.T, text string, code api.Errno, line int) {
	t.Helper()
	got, fault := console.Parse(text)
	if want := (console.Fault{Code: code, Line: line}); fault != want {
		t.Errorf("Parse(%.200q) tells %v, not %v", text, fault, want)
	}
	if !reflect.DeepEqual(got, console.Script{}) {
		t.Errorf("Parse(%.200q) tells %v, and a script that is not zero", text, fault)
	}
	report, again := console.Run(text)
	if report != "" || again != fault {
		t.Errorf("Run(%.200q) is %q and tells %v, not %v", text, report, again, fault)
	}
}

// all is a line for each command, with other values in each field, and the act that it stands for.
var all = []struct {
	line string
	act  world.Act
}{
	{"mkdir /a", world.Act{Kind: 1, Path: "/a"}},
	{"create /b", world.Act{Kind: 2, Path: "/b"}},
	{"link /c /d", world.Act{Kind: 3, Path: "/c", To: "/d"}},
	{"unlink /e", world.Act{Kind: 4, Path: "/e"}},
	{"rmdir /f", world.Act{Kind: 5, Path: "/f"}},
	{"rename /g /h", world.Act{Kind: 6, Path: "/g", To: "/h"}},
	{"truncate /i 1", world.Act{Kind: 7, Path: "/i", Size: 1}},
	{"write /j 2 k", world.Act{Kind: 8, Path: "/j", Offset: 2, Data: "k"}},
	{"read /l 3 4", world.Act{Kind: 9, Path: "/l", Offset: 3, Size: 4}},
	{"readdir /m", world.Act{Kind: 10, Path: "/m"}},
	{"stat /n", world.Act{Kind: 11, Path: "/n"}},
	{"sync", world.Act{Kind: 12}},
	{"fsync /o", world.Act{Kind: 13, Path: "/o"}},
	{"tick", world.Act{Kind: 14}},
	{"unmount", world.Act{Kind: 15}},
	{"mount", world.Act{Kind: 16}},
	{"check", world.Act{Kind: 17}},
	{"cut 5 6", world.Act{Kind: 18, Offset: 5, Size: 6}},
	{"spoil 7 8", world.Act{Kind: 19, Offset: 7, Size: 8}},
	{"wear 9", world.Act{Kind: 20, Offset: 9}},
	{"noise 10 11", world.Act{Kind: 21, Offset: 10, Size: 11}},
	{"format", world.Act{Kind: 22}},
}

func TestCommands(t *testing.T) {
	var text strings.Builder
	var acts []world.Act
	for i, c := range all {
		if c.act.Kind != i+1 {
			t.Fatalf("%q is out of its place", c.line)
		}
		checkActs(t, c.line, c.act)
		checkActs(t, c.line+"\n", c.act)
		checkActs(t, "  "+strings.ReplaceAll(c.line, " ", "   ")+" ", c.act)
		text.WriteString(c.line + "\n")
		acts = append(acts, c.act)
	}
	checkActs(t, text.String(), acts...)
	checkParse(t, "geometry 1 2 3 4 5", console.Script{Geometry: api.Geometry{Blocks: 1, Pages: 2, Chunks: 3, Chunk: 4, T: 5}})
}

// TestCount: a command takes as many fields as it takes, and neither fewer nor more.
func TestCount(t *testing.T) {
	for _, c := range append([]string{"geometry 1 2 3 4 5"}, lines()...) {
		fields := strings.Split(c, " ")
		for n := 1; n < len(fields); n++ {
			checkFault(t, strings.Join(fields[:n], " "), api.ErrArg, 1)
			checkFault(t, strings.Join(fields[:n], " ")+"  ", api.ErrArg, 1)
		}
		for _, more := range []string{" 1", " /x", ` ""`, ` "1"`, " #", " 1 2", " 1 2 3 4 5 6"} {
			checkFault(t, c+more, api.ErrArg, 1)
		}
	}
}

func lines() []string {
	var texts []string
	for _, c := range all {
		texts = append(texts, c.line)
	}
	return texts
}

func TestStrangeCommands(t *testing.T) {
	for _, line := range []string{
		"x", "Mkdir /a", "MKDIR /a", "mkdi /a", "mkdirs /a", "mk dir /a", "0", "1 /a", "-", "\\", "geometr 1 2 3 4 5", "geometry1 2 3 4 5",
		"Geometry 1 2 3 4 5", " #", "  # mkdir /a", "mkdir\t/a", "\tmkdir /a", "sync\r", "\r", "\x00", "\x00sync", "sync\x00", "\xff", "sync,", "//", "é",
		`""`, `"sync"`, `"mkdir" /a`, `"geometry" 1 2 3 4 5`, `"#"`, ` "sync"`, `"\x73ync"`, "unmount\u00a0",
	} {
		checkFault(t, line, api.ErrCommand, 1)
		checkFault(t, "sync\n"+line+"\n", api.ErrCommand, 2)
	}
}

// texts are fields and what they stand for.
var texts = map[string]string{
	"a":                               "a",
	"/a/b":                            "/a/b",
	"-":                               "-",
	"#":                               "#",
	"12":                              "12",
	"-0":                              "-0",
	"sync":                            "sync",
	`\`:                               `\`,
	`\\`:                              `\\`,
	`\x41`:                            `\x41`,
	`a\`:                              `a\`,
	"a\tb\r":                          "a\tb\r",
	"\x00\x01\x1f\x7f\x80\xff":        "\x00\x01\x1f\x7f\x80\xff",
	"é\u2028":                         "é\u2028",
	`""`:                              "",
	`" "`:                             " ",
	`"   "`:                           "   ",
	`"a b"`:                           "a b",
	`"#"`:                             "#",
	`"!#$%&'()*+,-./:;<=>?@[]^_{|}~"`: "!#$%&'()*+,-./:;<=>?@[]^_{|}~",
	`"\""`:                            `"`,
	`"\\"`:                            `\`,
	`"\\\""`:                          `\"`,
	`"\\x41"`:                         `\x41`,
	`"\x41"`:                          "A",
	`"\x00"`:                          "\x00",
	`"\x0A"`:                          "\n",
	`"\xFF"`:                          "\xff",
	`"\x20\x22\x5C"`:                  ` "\`,
	`"\xC3\xA9"`:                      "é",
	`"\x411"`:                         "A1",
	`"x\x09y"`:                        "x\ty",
	`"12"`:                            "12",
	`"\x9A\xBC\xDE\xF0"`:              "\x9a\xbc\xde\xf0",
}

func TestTexts(t *testing.T) {
	for f, value := range texts {
		checkActs(t, "mkdir "+f, world.Act{Kind: world.Mkdir, Path: value})
		checkActs(t, "mkdir   "+f+"  \nsync", world.Act{Kind: world.Mkdir, Path: value}, world.Act{Kind: world.Sync})
		checkActs(t, "link "+f+" x", world.Act{Kind: world.Link, Path: value, To: "x"})
		checkActs(t, "rename x "+f, world.Act{Kind: world.Rename, Path: "x", To: value})
		checkActs(t, "write "+f+" 1 "+f, world.Act{Kind: world.Write, Path: value, Offset: 1, Data: value})
		checkFault(t, "mkdir "+f+" "+f, api.ErrArg, 1)
	}
}

// TestEachByte: in a field, quoted, and behind a backslash.
func TestEachByte(t *testing.T) {
	for b := range 256 {
		text := string([]byte{byte(b)})
		act := world.Act{Kind: world.Mkdir, Path: "x" + text + "y"}
		switch text {
		case "\n": // ends the line
			checkFault(t, "mkdir x\ny", api.ErrCommand, 2)
		case " ":
			checkFault(t, "mkdir x y", api.ErrArg, 1)
		case `"`:
			checkFault(t, `mkdir x"y`, api.ErrForm, 1)
		default:
			checkActs(t, "mkdir x"+text+"y", act)
		}
		if b >= 0x20 && b <= 0x7e && text != `"` && text != `\` {
			checkActs(t, `mkdir "x`+text+`y"`, act)
		} else {
			checkFault(t, `mkdir "x`+text+`y"`, api.ErrForm, 1)
		}
		if text == `"` || text == `\` {
			checkActs(t, `mkdir "x\`+text+`y"`, act)
		} else {
			checkFault(t, `mkdir "x\`+text+`y"`, api.ErrForm, 1)
		}
		checkActs(t, fmt.Sprintf(`mkdir "x\x%02Xy"`, b), act)
		if lower := fmt.Sprintf(`mkdir "x\x%02xy"`, b); lower != fmt.Sprintf(`mkdir "x\x%02Xy"`, b) {
			checkFault(t, lower, api.ErrForm, 1)
		}
	}
}

// TestForm: lines of which the fields can't be determined, whatever the command.
func TestForm(t *testing.T) {
	for _, fields := range []string{
		`"`, `"a`, `"a b`, `a"`, `a"b"`, `"a"b`, `"a""b"`, `""""`, `"a"\`, `"a"#`, "\"a\"\t", `"\`, `"\"`, `"\\\"`, `"\x`, `"\x4`, `"\x41`, `"\x"`, `"\x4"`,
		`"\x4g"`, `"\xg4"`, `"\X41"`, `"\xaa"`, `"\x 1"`, `"\x-1"`, `"\n"`, `"\0"`, `"\t"`, `"\ "`, `"\u0041"`, "\"\x7f\"", "\"\x1f\"", "\"\x80\"", "\"é\"",
		"\"\t\"", "\"\x00\"", "\"a\r\"", `x "`, `" "x`, `"a" b"`, `a "b"c`, `\"`, `\"a\"`,
	} {
		for _, before := range []string{"mkdir ", "nothing ", "geometry ", "cut 1 ", "", "   ", "sync 1 2 3 ", `"sync" `} {
			checkFault(t, before+fields, api.ErrForm, 1)
			checkFault(t, "sync\n\n# "+fields+"\n"+before+fields+"\nx", api.ErrForm, 4)
		}
	}
}

func TestNumbers(t *testing.T) {
	for text, value := range map[string]int{
		"0": 0, "1": 1, "9": 9, "10": 10, "-1": -1, "-9": -9, "-10": -10, "123456789": 123456789,
		"999999999": 999999999, "-999999999": -999999999, "100000000": 100000000,
	} {
		checkActs(t, "cut "+text+" 7", world.Act{Kind: world.Cut, Offset: value, Size: 7})
		checkActs(t, "cut 7 "+text, world.Act{Kind: world.Cut, Offset: 7, Size: value})
		checkActs(t, "wear "+text, world.Act{Kind: world.Wear, Offset: value})
		checkActs(t, "truncate /f "+text, world.Act{Kind: world.Truncate, Path: "/f", Size: value})
		checkActs(t, "write "+text+" "+text+" "+text, world.Act{Kind: world.Write, Path: text, Offset: value, Data: text})
		checkParse(t, "geometry 1 2 "+text+" 4 5", console.Script{Geometry: api.Geometry{Blocks: 1, Pages: 2, Chunks: value, Chunk: 4, T: 5}})
	}
	for _, text := range []string{
		"00", "01", "-0", "-00", "-01", "+0", "+1", "-", "--1", "-+1", "1-", "1.", ".1", "1e1", "0x1", "0b1", "1_0", "a", "1a", "\\x31", "1\t", "\t1", "1\r", "½", "١",
		"1000000000", "-1000000000", "0000000001", "000000000", "9999999999", "18446744073709551617", "-9223372036854775808", "1,0",
		`"1"`, `"0"`, `"-1"`, `""`, `" "`, `"\x31"`, "/f",
	} {
		for _, line := range []string{"cut %s 7", "cut 7 %s", "spoil %s 7", "spoil 7 %s", "noise %s 7", "noise 7 %s", "wear %s", "truncate /f %s",
			"write /f %s x", "read /f %s 7", "read /f 7 %s", "geometry %s 1 1 1 1", "geometry 1 %s 1 1 1", "geometry 1 1 %s 1 1", "geometry 1 1 1 %s 1", "geometry 1 1 1 1 %s"} {
			checkFault(t, fmt.Sprintf(line, text), api.ErrArg, 1)
		}
	}
}

func TestLines(t *testing.T) {
	sync, tick := world.Act{Kind: world.Sync}, world.Act{Kind: world.Tick}
	for _, text := range []string{"", "\n", "\n\n\n", " ", "   \n ", "#", "#\n", "# mkdir", "#\"", "#\"\n##", "# \x00\xff\n", "#sync\n \n#tick"} {
		checkActs(t, text)
	}
	for _, text := range []string{"sync\ntick", "sync\ntick\n", "\n\nsync\n\n\ntick\n\n", "#\nsync\n# \"\n  tick  \n   ", " sync \n tick"} {
		checkActs(t, text, sync, tick)
	}
	for n := range 5 {
		checkFault(t, strings.Repeat("\n", n)+"x", api.ErrCommand, n+1)
		checkFault(t, strings.Repeat("sync\n", n)+"x\n", api.ErrCommand, n+1)
		checkFault(t, strings.Repeat("# x\n", n)+"sync 1\n\nx\n", api.ErrArg, n+1)
		checkFault(t, strings.Repeat("  \n", n)+"\"\n\nx\n", api.ErrForm, n+1)
	}
	checkFault(t, "sync\r\ntick\r\n", api.ErrCommand, 1)
	checkFault(t, " # sync", api.ErrCommand, 1)
	checkFault(t, "mkdir \"a\nb\"", api.ErrForm, 1)
}

// TestFirst: of several faults, that of the first line is told, and of one line that which is mentioned first.
func TestFirst(t *testing.T) {
	checkFault(t, "sync 1\nx\n\"", api.ErrArg, 1)
	checkFault(t, "x\n\"\nsync 1", api.ErrCommand, 1)
	checkFault(t, "\"\nsync 1\nx", api.ErrForm, 1)
	checkFault(t, `x "`, api.ErrForm, 1)
	checkFault(t, `sync "`, api.ErrForm, 1)
	checkFault(t, `x 1 2 3 4 5 6`, api.ErrCommand, 1)
	checkFault(t, `"cut" x`, api.ErrCommand, 1)
	checkFault(t, `geometry 1 2 3 4 5 "`, api.ErrForm, 1)
	checkFault(t, "geometry 1 2 3 4 5\nmkdir /a\nsync\ngeometry 1", api.ErrArg, 4)
}

func TestGeometry(t *testing.T) {
	g := api.Geometry{Blocks: 1, Pages: -2, Chunks: 0, Chunk: 999999999, T: 5}
	checkParse(t, "geometry 1 -2 0 999999999 5", console.Script{Geometry: g})
	checkParse(t, "geometry 9 9 9 9 9\nsync\ngeometry 1 -2 0 999999999 5\ntick", console.Script{Geometry: g, Acts: []world.Act{{Kind: world.Sync}, {Kind: world.Tick}}})
	checkParse(t, "geometry 9 9 9 9 9\n# geometry 1 1 1 1 1\ngeometry 0 0 0 0 0", console.Script{})
	checkParse(t, "geometry 0 1 0 0 0\ngeometry 1 0 0 0 0", console.Script{Geometry: api.Geometry{Blocks: 1}})
	checkParse(t, "sync", console.Script{Acts: []world.Act{{Kind: world.Sync}}})
}

func TestLong(t *testing.T) {
	for _, text := range []string{strings.Repeat("\n", 65536), "mkdir " + strings.Repeat("x", 65530), "#" + strings.Repeat("\xff", 65535), strings.Repeat(" ", 65536)} {
		if _, fault := console.Parse(text); fault != (console.Fault{}) {
			t.Errorf("a text of 65536 bytes has the fault %v", fault)
		}
		checkFault(t, text+"\n", api.ErrLong, 0)
	}
	checkFault(t, strings.Repeat("\"", 65537), api.ErrLong, 0)
	checkFault(t, "x\n"+strings.Repeat(" ", 65535), api.ErrLong, 0)
	checkFault(t, "x\n"+strings.Repeat(" ", 65534), api.ErrCommand, 1)
	checkFault(t, strings.Repeat("\n", 65535)+"x", api.ErrCommand, 65536)
	checkFault(t, strings.Repeat("x", 1<<20), api.ErrLong, 0)
	got, _ := console.Parse(strings.Repeat("tick\n", 13107))
	if len(got.Acts) != 13107 {
		t.Errorf("13107 lines are %d acts", len(got.Acts))
	}
}

func checkShow(t *testing.T, s console.Script, want string) {
	t.Helper()
	if got := console.Show(s); got != want {
		t.Errorf("Show is %.300q, not %.300q", got, want)
	}
}

func TestShow(t *testing.T) {
	checkShow(t, console.Script{}, "geometry 0 0 0 0 0\n")
	s := console.Script{Geometry: api.Geometry{Blocks: 14, Pages: 16, Chunks: -2, Chunk: 1 << 40, T: math.MinInt}}
	want := "geometry 14 16 -2 1099511627776 -9223372036854775808\n"
	checkShow(t, s, want)
	for _, c := range all {
		s.Acts = append(s.Acts, c.act)
	}
	want += `mkdir "/a"
create "/b"
link "/c" "/d"
unlink "/e"
rmdir "/f"
rename "/g" "/h"
truncate "/i" 1
write "/j" 2 "k"
read "/l" 3 4
readdir "/m"
stat "/n"
sync
fsync "/o"
tick
unmount
mount
check
cut 5 6
spoil 7 8
wear 9
noise 10 11
format
`
	checkShow(t, s, want)
}

// TestShowOmits: acts of other kinds, and fields that a command does not take.
func TestShowOmits(t *testing.T) {
	var s console.Script
	want := "geometry 0 0 0 0 0\n"
	for _, kind := range []int{0, 23, -1, 8, 24, 99, math.MinInt, 12, math.MaxInt, 256 + 1, 20, 1 << 32} {
		s.Acts = append(s.Acts, world.Act{Kind: kind, Path: "p", To: "q", Data: "d", Offset: math.MaxInt, Size: -1 << 40})
	}
	before := slices.Clone(s.Acts)
	checkShow(t, s, want+"write \"p\" 9223372036854775807 \"d\"\nsync\nwear 9223372036854775807\n")
	if !slices.Equal(s.Acts, before) {
		t.Error("Show changes a script")
	}
	full := world.Act{Path: "p", To: "q", Data: "d", Offset: 3, Size: -4}
	for kind, line := range map[int]string{
		world.Mkdir: `mkdir "p"`, world.Link: `link "p" "q"`, world.Rename: `rename "p" "q"`, world.Truncate: `truncate "p" -4`,
		world.Write: `write "p" 3 "d"`, world.Read: `read "p" 3 -4`, world.Sync: "sync", world.Cut: "cut 3 -4", world.Wear: "wear 3", world.Format: "format",
	} {
		full.Kind = kind
		checkShow(t, console.Script{Acts: []world.Act{full}}, want+line+"\n")
	}
}

func TestShowQuotes(t *testing.T) {
	for text, quoted := range map[string]string{
		"":             `""`,
		" ":            `" "`,
		"~ !":          `"~ !"`,
		`"`:            `"\""`,
		`\`:            `"\\"`,
		`\x41"`:        `"\\x41\""`,
		"\n\t\r":       `"\x0A\x09\x0D"`,
		"\x00\x1f":     `"\x00\x1F"`,
		"\x7f\x80\xff": `"\x7F\x80\xFF"`,
		"é":            `"\xC3\xA9"`,
		"#":            `"#"`,
		"12":           `"12"`,
	} {
		acts := []world.Act{{Kind: world.Rename, Path: text, To: text}, {Kind: world.Write, Path: text, Data: text}}
		checkShow(t, console.Script{Acts: acts}, "geometry 0 0 0 0 0\nrename "+quoted+" "+quoted+"\nwrite "+quoted+" 0 "+quoted+"\n")
	}
	for b := range 256 {
		want := fmt.Sprintf("%c", b)
		switch {
		case b == '"' || b == '\\':
			want = `\` + want
		case b < 0x20 || b > 0x7e:
			want = fmt.Sprintf(`\x%02X`, b)
		}
		path := string([]byte{byte(b)})
		checkShow(t, console.Script{Acts: []world.Act{{Kind: world.Stat, Path: path}}}, "geometry 0 0 0 0 0\nstat \""+want+"\"\n")
	}
	long := strings.Repeat("\xff", 1<<20)
	checkShow(t, console.Script{Acts: []world.Act{{Kind: world.Stat, Path: long}}}, "geometry 0 0 0 0 0\nstat \""+strings.Repeat(`\xFF`, 1<<20)+"\"\n")
}

func checkReport(t *testing.T, o world.Outcome, want string) {
	t.Helper()
	if got := console.Report(o); got != want {
		t.Errorf("Report is %.300q, not %.300q", got, want)
	}
}

func TestReport(t *testing.T) {
	checkReport(t, world.Outcome{}, "changes 0\nreads 0\n")
	checkReport(t, world.Outcome{Changes: 12, Reads: 345}, "changes 12\nreads 345\n")
	checkReport(t, world.Outcome{Changes: -1, Reads: math.MinInt, Told: []world.Told{{}, {Code: api.ErrCommand}}}, "0\n140\nchanges -1\nreads -9223372036854775808\n")
	for _, c := range []struct {
		told world.Told
		want string
	}{
		{world.Told{}, "0"},
		{world.Told{Code: api.ErrPower}, "20"},
		{world.Told{Code: -7}, "-7"},
		{world.Told{Names: []string{}}, "0"},
		{world.Told{Data: "ab"}, `0 "ab" 0 0 0 file`},
		{world.Told{Data: "\x00\"\\\xff "}, `0 "\x00\"\\\xFF " 0 0 0 file`},
		{world.Told{Names: []string{"f"}}, `0 "" 0 0 0 file "f"`},
		{world.Told{Names: []string{""}}, `0 "" 0 0 0 file ""`},
		{world.Told{Names: []string{"a b", "\n", `"`}}, `0 "" 0 0 0 file "a b" "\x0A" "\""`},
		{world.Told{Number: 3, Links: 1, Size: 9}, `0 "" 3 1 9 file`},
		{world.Told{Number: 2, Links: 1, Dir: true}, `0 "" 2 1 0 dir`},
		{world.Told{Number: -1}, `0 "" -1 0 0 file`},
		{world.Told{Links: 100}, `0 "" 0 100 0 file`},
		{world.Told{Size: 8192}, `0 "" 0 0 8192 file`},
		{world.Told{Dir: true}, `0 "" 0 0 0 dir`},
		{world.Told{Code: 4, Data: "d", Names: []string{"n", "m"}, Number: 1, Links: 2, Size: 3, Dir: true}, `4 "d" 1 2 3 dir "n" "m"`},
	} {
		checkReport(t, world.Outcome{Told: []world.Told{c.told}}, c.want+"\nchanges 0\nreads 0\n")
		checkReport(t, world.Outcome{Told: []world.Told{c.told, {Code: 1}, c.told}, Changes: 1, Reads: 2}, c.want+"\n1\n"+c.want+"\nchanges 1\nreads 2\n")
	}
}

// TestReportLeavesNames: neither they nor what lies behind them are changed.
func TestReportLeavesNames(t *testing.T) {
	names := []string{"b", "a", "behind"}
	console.Report(world.Outcome{Told: []world.Told{{Names: names[:2]}}})
	if !slices.Equal(names, []string{"b", "a", "behind"}) {
		t.Errorf("the names are %q now", names)
	}
}
