package console_test

import (
	"fmt"
	"math/rand"
	"strings"
	"testing"

	"chert/api"
	"chert/console"
	"chert/world"
)

// usual is the geometry of the document's examples.
const usual = "geometry 14 16 2 128 2\n"

// checkRun: what the acts of a text are answered, line by line; two more lines follow.
func checkRun(t *testing.T, text string, want ...string) {
	t.Helper()
	report, fault := console.Run(text)
	if fault != (console.Fault{}) {
		t.Errorf("Run(%.200q) tells %v", text, fault)
		return
	}
	told := strings.Join(want, "\n") + "\n"
	if len(want) == 0 {
		told = ""
	}
	var changes, reads int
	n, _ := fmt.Sscanf(strings.TrimPrefix(report, told), "changes %d\nreads %d\n", &changes, &reads)
	if n != 2 || report != told+fmt.Sprintf("changes %d\nreads %d\n", changes, reads) {
		t.Errorf("Run(%.200q) is %q, not %q and two more lines", text, report, told)
	}
}

func TestExample(t *testing.T) {
	text := "geometry 12 16 2 128 1\nmkdir /a\nstat /a\n"
	g := api.Geometry{Blocks: 12, Pages: 16, Chunks: 2, Chunk: 128, T: 1}
	script := []world.Act{{Kind: world.Mkdir, Path: "/a"}, {Kind: world.Stat, Path: "/a"}}
	checkParse(t, text, console.Script{Geometry: g, Acts: script})
	checkRun(t, text, "0", `0 "" 2 1 0 dir`)
	o, _ := world.Run(g, script)
	report, _ := console.Run(text)
	if want := fmt.Sprintf("0\n0 \"\" 2 1 0 dir\nchanges %d\nreads %d\n", o.Changes, o.Reads); report != want {
		t.Errorf("the report is %q, not %q", report, want)
	}
}

// TestTenExamples: those of the whole.
func TestTenExamples(t *testing.T) {
	checkRun(t, usual+"mkdir /a\ncreate /a/f\nreaddir /a\nstat /a/f\n", "0", "0", `0 "" 0 0 0 file "f"`, `0 "" 3 1 0 file`)
	checkRun(t, usual+"write /f 0 \"ab\"\nmkdir /a\nwrite /a 0 x\n", "100", "0", "103")
	checkRun(t, usual+"create /f\nwrite /f 100 x\nread /f 98 9", "0", "0", `0 "\x00\x00x" 0 0 0 file`)
	checkRun(t, usual+"create /f\nwrite /f 0 first\nlink /f /g\nunlink /f\nread /g 0 9", "0", "0", "0", "0", `0 "first" 0 0 0 file`)
	checkRun(t, usual+"mkdir /a\nrename /a /a/b\ncreate /f\nrename /a /f\nmkdir /d\nrename /a /d\nmkdir /e\nmkdir /e/x\nrename /d /e", "0", "108", "0", "102", "0", "0", "0", "0", "104")
	checkRun(t, usual+"create /f\ntruncate /f 8193\nwrite /f 0 "+strings.Repeat("x", 257), "0", "109", "107")
	checkRun(t, usual+"create /"+strings.Repeat("x", 33), "105")
	checkRun(t, usual+"create /f\nsync\ncreate /g\nmount\nstat /f", "0", "0", "0", "0", `0 "" 2 1 0 file`)
	spoils := ""
	for b := range 14 {
		spoils += fmt.Sprintf("spoil %d 1\n", b)
	}
	checkRun(t, usual+"create /f\nunmount\n"+spoils+"mount\nstat /f", append(strings.Split("0"+strings.Repeat(" 0", 16), " "), `0 "" 2 1 0 file`)...)
}

// TestWorldExample is that of the layer below.
func TestWorldExample(t *testing.T) {
	checkRun(t, usual+`
# The power goes off in the last sync, of which nothing is left.
create /f
write /f 0 "ab"
sync
cut 1 0
mkdir /a
sync
mount
read /f 0 9`, "0", "0", "0", "0", "0", "20", "0", `0 "ab" 0 0 0 file`)
}

func TestRunStrangeNames(t *testing.T) {
	checkRun(t, usual+`mkdir "/a b"
create "/a b/\"\\\x0A\xFF"
readdir "/a b"
write "/a b/\"\\\x0A\xFF" 0 "\x00 \x7F~"
read "/a b/\"\\\x0A\xFF" 0 9
stat ""
stat "\x00"`, "0", "0", `0 "" 0 0 0 file "\"\\\x0A\xFF"`, "0", `0 "\x00 \x7F~" 0 0 0 file`, "107", "107")
}

func TestRunWithoutActs(t *testing.T) {
	checkRun(t, usual)
	checkRun(t, "# nothing is done\n\n"+usual)
	checkRun(t, "geometry 0 0 0 0 0\n"+usual+"# the last one counts")
	checkRun(t, "geometry 4 4 1 32 1\nmkdir /a\nmount", "110", "1") // too small for a file system
}

// TestRunRefused: by the layer below, which names no line.
func TestRunRefused(t *testing.T) {
	for _, text := range []string{"", "sync\n", "mkdir /a", "geometry 0 0 0 0 0\n", usual + "geometry 14 16 2 128 9\nsync", "geometry 65 16 2 128 2\n", "geometry -14 16 2 128 2\n", "geometry 14 15 2 128 2\nsync\n",
		"geometry 999999999 999999999 999999999 999999999 999999999\nsync"} {
		if report, fault := console.Run(text); report != "" || fault != (console.Fault{Code: api.ErrArg}) {
			t.Errorf("Run(%q) is %q and %v", text, report, fault)
		}
		if _, fault := console.Parse(text); fault != (console.Fault{}) {
			t.Errorf("Parse(%q) tells %v", text, fault)
		}
	}
}

// someActs: a text in which much is done.
func someActs(random *rand.Rand) string {
	var text strings.Builder
	text.WriteString([]string{usual, "geometry 12 16 1 256 1\n", "geometry 17 20 3 90 3\n"}[random.Intn(3)])
	for range 80 {
		command := strings.Fields(strings.Split(slowTable, "\n")[random.Intn(22)])
		for i, letter := range command[1:] {
			switch letter {
			case "P", "Q":
				command[i+1] = []string{"/", "/a", "/b", "/a/c", `"/a/c d"`, "/b/e", `""`}[random.Intn(7)]
			case "D":
				command[i+1] = `"` + strings.Repeat(`x\x00`, random.Intn(100)) + `"`
			default:
				command[i+1] = fmt.Sprint(random.Intn(40) - 1)
			}
		}
		text.WriteString(strings.Join(command, " ") + "\n")
	}
	return text.String()
}

// TestRunIsAll: the report is that of what the layer below answers to the script.
func TestRunIsAll(t *testing.T) {
	for seed := range 40 {
		text := someActs(rand.New(rand.NewSource(int64(seed))))
		s, fault := console.Parse(text)
		if fault != (console.Fault{}) || len(s.Acts) != 80 {
			t.Fatalf("Parse(%q) tells %v", text, fault)
		}
		o, err := world.Run(s.Geometry, s.Acts)
		if err != api.OK {
			t.Fatalf("Run is %d", err)
		}
		for range 2 {
			if report, fault := console.Run(text); report != console.Report(o) || fault != (console.Fault{}) {
				t.Fatalf("Run(%q) is %q and %v, not %q", text, report, fault, console.Report(o))
			}
		}
	}
}
