package path_test

import (
	"slices"
	"strings"
	"testing"
	"unsafe"

	"chert/api"
	"chert/path"
)

func checkSplit(t *testing.T, text string, want []string, err api.Errno) {
	t.Helper()
	if parts, got := path.Split(text); !slices.Equal(parts, want) || got != err {
		t.Errorf("Split(%.60q) is %.60q, %d, not %.60q, %d", text, parts, got, want, err)
	}
}

func checkJoin(t *testing.T, parts []string, want string, err api.Errno) {
	t.Helper()
	if text, got := path.Join(parts...); text != want || got != err {
		t.Errorf("Join(%.60q) is %.60q, %d, not %.60q, %d", parts, text, got, want, err)
	}
}

func checkParent(t *testing.T, text, above, last string, err api.Errno) {
	t.Helper()
	if gotAbove, gotLast, got := path.Parent(text); gotAbove != above || gotLast != last || got != err {
		t.Errorf("Parent(%.60q) is %.60q, %.40q, %d, not %.60q, %.40q, %d", text, gotAbove, gotLast, got, above, last, err)
	}
}

func checkWithin(t *testing.T, text, top string, want bool) {
	t.Helper()
	if got := path.Within(text, top); got != want {
		t.Errorf("Within(%.60q, %.60q) is %v", text, top, got)
	}
}

// checkWrong: a text that is no path, for all functions that take one.
func checkWrong(t *testing.T, text string, err api.Errno) {
	t.Helper()
	checkSplit(t, text, nil, err)
	checkParent(t, text, "", "", err)
	checkWithin(t, text, "/", false)
	checkWithin(t, "/a", text, false)
	checkWithin(t, text, text, false)
}

// checkRight: a path of these parts, for all functions.
func checkRight(t *testing.T, text string, parts ...string) {
	t.Helper()
	checkSplit(t, text, parts, api.OK)
	checkJoin(t, parts, text, api.OK)
	checkWithin(t, text, text, true)
	checkWithin(t, text, "/", true)
	if len(parts) == 0 {
		checkParent(t, text, "", "", api.ErrInvalid)
		return
	}
	above := "/" + strings.Join(parts[:len(parts)-1], "/")
	checkParent(t, text, above, parts[len(parts)-1], api.OK)
	checkWithin(t, text, above, true)
	checkWithin(t, above, text, false)
}

// name: one of so many bytes.
func name(bytes int) string { return strings.Repeat("n", bytes) }

func TestExamples(t *testing.T) {
	checkSplit(t, "/a/b", []string{"a", "b"}, api.OK)
	checkSplit(t, "/", nil, api.OK)
	checkSplit(t, "/a/", nil, api.ErrInvalid)
	checkParent(t, "/a", "/", "a", api.OK)
	checkWithin(t, "/ab", "/a", false)
}

func TestPaths(t *testing.T) {
	checkRight(t, "/")
	checkRight(t, "/a", "a")
	checkRight(t, "/a/b/a", "a", "b", "a")
	checkRight(t, "/...", "...")
	checkRight(t, "/.a/a./..a/a..", ".a", "a.", "..a", "a..")
	checkRight(t, "/. /.. ", ". ", ".. ")
	checkRight(t, "/ /\\/\n/\x01", " ", "\\", "\n", "\x01")
	checkRight(t, "/\xff\xfe/\x80/ä", "\xff\xfe", "\x80", "ä")
	checkRight(t, "/"+name(api.MaxName), name(api.MaxName))
	checkRight(t, "/"+strings.Repeat("ü", api.MaxName/2), strings.Repeat("ü", api.MaxName/2))
}

func TestNoPaths(t *testing.T) {
	for _, text := range []string{
		"", "a", "a/b", " /a", "\x00/a", ".", "..", "./a", "//", "///", "//a", "/a/", "/a//", "/a//b", "/a/b/", "/a//b/",
		"/.", "/..", "/./a", "/../a", "/a/.", "/a/..", "/a/./b", "/a/../b",
		"/\x00", "/a\x00", "/\x00a", "/a/b\x00c", "/a\x00/b", "\x00",
	} {
		checkWrong(t, text, api.ErrInvalid)
	}
}

func TestLongNames(t *testing.T) {
	long := name(api.MaxName + 1)
	for _, text := range []string{"/" + long, "/a/" + long, "/" + long + "/a", "/" + long + "/" + long, "/" + name(api.MaxPath-1), "/" + strings.Repeat(".", 33), "/" + strings.Repeat("ü", 17)} {
		checkWrong(t, text, api.ErrNameLong)
	}
	// Whatever else is wrong goes before it.
	for _, text := range []string{long, "//" + long, "/" + long + "/", "/" + long + "//a", "/" + long + "/..", "/./" + long, "/" + long + "\x00", "/a\x00/" + long, "/" + long + "/a\x00", "/" + name(api.MaxPath), "/" + long + strings.Repeat("/a", api.MaxDepth)} {
		checkWrong(t, text, api.ErrInvalid)
	}
}

func TestLongPaths(t *testing.T) {
	parts := append(slices.Repeat([]string{name(api.MaxName)}, 7), name(24))
	text := "/" + strings.Join(parts, "/")
	if len(text) != api.MaxPath {
		t.Fatalf("the path has %d bytes", len(text))
	}
	checkRight(t, text, parts...)
	checkWrong(t, text+"n", api.ErrInvalid)
	checkJoin(t, append(slices.Clone(parts[:7]), name(25)), "", api.ErrInvalid)
	checkJoin(t, append(slices.Clone(parts[:7]), name(22), "n"), text[:len(text)-2]+"/n", api.OK)
	checkJoin(t, append(slices.Clone(parts), "n"), "", api.ErrInvalid)
	checkWrong(t, strings.Repeat("/", 1<<20), api.ErrInvalid)
	checkWrong(t, "/"+name(1<<20), api.ErrInvalid)
}

func TestDeepPaths(t *testing.T) {
	parts := slices.Repeat([]string{"a"}, api.MaxDepth)
	text := strings.Repeat("/a", api.MaxDepth)
	checkRight(t, text, parts...)
	checkWrong(t, text+"/a", api.ErrInvalid)
	checkWrong(t, text+"/", api.ErrInvalid)
	checkJoin(t, append(parts, "a"), "", api.ErrInvalid)
	checkWithin(t, text, "/a", true)
	checkWithin(t, text, text[:len(text)-2], true)
	checkWithin(t, text+"/a", text, false)
	checkWithin(t, text+"/a", "/a", false)
}

func TestJoinOfWhatIsWrong(t *testing.T) {
	for _, parts := range [][]string{
		{""}, {"", ""}, {"a", ""}, {"", "a"}, {"a", "", "b"}, {"."}, {"a", ".."}, {"\x00"}, {"a", "b\x00"}, {"/"}, {"a/"}, {"/a"}, {"a", "/"},
		{"a/b"}, {"a", "b/c"}, {"a/b", "c"}, {"a/b/c"}, // a path, but not of these parts
		{name(api.MaxPath)}, slices.Repeat([]string{"a"}, 1000),
	} {
		checkJoin(t, parts, "", api.ErrInvalid)
	}
	for _, parts := range [][]string{{name(33)}, {"a", name(33)}, {name(33), "a"}, {"a/" + name(33)}, {name(33) + "/a", "b"}, {name(api.MaxPath - 1)}} {
		checkJoin(t, parts, "", api.ErrNameLong)
	}
	checkJoin(t, []string{name(33), ""}, "", api.ErrInvalid)
	checkJoin(t, []string{name(33), "a\x00"}, "", api.ErrInvalid)
	checkJoin(t, nil, "/", api.OK)
	checkJoin(t, []string{}, "/", api.OK)
}

func TestWithin(t *testing.T) {
	for _, c := range []struct {
		text, top string
		want      bool
	}{
		{"/", "/", true}, {"/a", "/", true}, {"/", "/a", false},
		{"/a", "/a", true}, {"/a/b", "/a", true}, {"/a/b/c", "/a/b", true}, {"/a/b/c", "/a", true},
		{"/a", "/a/b", false}, {"/a", "/b", false}, {"/a/b", "/b", false}, {"/a/b", "/a/c", false}, {"/a/b/c", "/a/c", false},
		{"/ab", "/a", false}, {"/a", "/ab", false}, {"/a/bc", "/a/b", false}, {"/A", "/a", false},
		{"", "", false}, {"", "/", false}, {"/", "", false}, {"a/b", "a", false}, {"/a/", "/a", false}, {"/a/b", "/a/", false}, {"/a/../b", "/a", false},
		{"/a/" + name(33), "/a", false}, {"/" + name(33), "/" + name(33), false},
	} {
		checkWithin(t, c.text, c.top, c.want)
	}
}

// slowSplit: the parts by the chapter's words, byte by byte.
func slowSplit(text string) ([]string, api.Errno) {
	if text == "" || text[0] != '/' || len(text) > 256 {
		return nil, api.ErrInvalid
	}
	if len(text) == 1 {
		return nil, api.OK
	}
	parts := []string{""}
	for i := 1; i < len(text); i++ {
		switch text[i] {
		case '/':
			parts = append(parts, "")
		case 0:
			return nil, api.ErrInvalid
		default:
			parts[len(parts)-1] += text[i : i+1]
		}
	}
	err := api.OK
	for _, part := range parts {
		if part == "" || part == "." || part == ".." || len(parts) > 16 {
			return nil, api.ErrInvalid
		}
		if len(part) > 32 {
			err = api.ErrNameLong
		}
	}
	if err != api.OK {
		return nil, err
	}
	return parts, api.OK
}

// slowWithin: whether the one begins with the other, and goes on with a part of its own.
func slowWithin(text, top string) bool {
	_, err := slowSplit(text)
	_, topErr := slowSplit(top)
	return err == api.OK && topErr == api.OK && (top == "/" || text == top || strings.HasPrefix(text, top+"/"))
}

// checkText: what the functions answer for any text.
func checkText(t *testing.T, text string) {
	t.Helper()
	parts, err := slowSplit(text)
	if err != api.OK {
		checkWrong(t, text, err)
	} else {
		checkRight(t, text, parts...)
	}
	for _, top := range []string{"/", "/a", "/a/a", "/.a", "/a.", "a", text[:len(text)/2]} {
		checkWithin(t, text, top, slowWithin(text, top))
		checkWithin(t, top, text, slowWithin(top, text))
	}
}

// texts: all that have at most so many of these pieces behind a beginning.
func texts(begin string, pieces []string, most int) []string {
	all := []string{begin}
	for i := 0; i < len(all) && most > 0; most-- {
		end := len(all)
		for ; i < end; i++ {
			for _, piece := range pieces {
				all = append(all, all[i]+piece)
			}
		}
	}
	return all
}

func TestAllShortTexts(t *testing.T) {
	for _, text := range texts("", []string{"/", ".", "a", "\x00"}, 6) {
		checkText(t, text)
	}
}

func TestAllDeepTexts(t *testing.T) {
	for _, begin := range []string{"", "/a", "/a/" + name(31), strings.Repeat("/ab", 13), strings.Repeat("/ab", 13) + "/" + name(210)} {
		for _, text := range texts(begin, []string{"/", "/..", "a", "/a", "/" + name(32), "\x00"}, 4) {
			checkText(t, text)
		}
	}
}

// TestJoinOfAllParts: Join gives a path only if Split gives the parts again.
func TestJoinOfAllParts(t *testing.T) {
	some := []string{"", "a", ".", "..", "/", "a/b", "b\x00", name(32), name(33)}
	lists := [][]string{nil}
	for range 3 {
		for _, list := range lists {
			for _, part := range some {
				lists = append(lists, append(slices.Clone(list), part))
			}
		}
	}
	for _, list := range lists {
		text := "/" + strings.Join(list, "/")
		parts, err := slowSplit(text)
		if err == api.OK && !slices.Equal(parts, list) {
			err = api.ErrInvalid
		}
		if err != api.OK {
			text = ""
		}
		checkJoin(t, list, text, err)
	}
}

// shares: does a text lie in the memory of another one?
func shares(a, b string) bool {
	if a == "" || b == "" {
		return false
	}
	at, begin := uintptr(unsafe.Pointer(unsafe.StringData(a))), uintptr(unsafe.Pointer(unsafe.StringData(b)))
	return at < begin+uintptr(len(b)) && begin < at+uintptr(len(a))
}

func TestAnswersAreNew(t *testing.T) {
	text := strings.Repeat("/part", 4)
	parts, _ := path.Split(text)
	above, last, _ := path.Parent(text)
	joined, _ := path.Join(parts...)
	one, _ := path.Join(parts[0])
	if shares(above, last) || shares(above, text) || shares(last, text) || shares(joined, one) {
		t.Error("Parent or Join shares memory")
	}
	for i, part := range parts {
		if shares(part, text) || shares(part, joined) || shares(part, one) || slices.ContainsFunc(parts[:i], func(p string) bool { return shares(part, p) }) {
			t.Errorf("part %d shares memory", i)
		}
	}
}

func TestJoinLeavesThePartsAlone(t *testing.T) {
	parts := append(make([]string, 0, 5), "a", "b")
	path.Join(parts...)
	if !slices.Equal(parts[:5], []string{"a", "b", "", "", ""}) {
		t.Errorf("the parts are %q now", parts[:5])
	}
}
