package pack_test

import (
	"math"
	"math/rand"
	"slices"
	"strings"
	"testing"
	"unsafe"

	"chert/api"
	"chert/pack"
)

func checkAdd(t *testing.T, p *pack.Packer, s, page string, full bool, err api.Errno) {
	t.Helper()
	if gotPage, gotFull, got := p.Add(s); gotPage != page || gotFull != full || got != err {
		t.Fatalf("Add(%.40q) is %.40q, %v, %d, not %.40q, %v, %d", s, gotPage, gotFull, got, page, full, err)
	}
}

func checkFlush(t *testing.T, p *pack.Packer, page string, any bool) {
	t.Helper()
	if gotPage, got := p.Flush(); gotPage != page || got != any {
		t.Fatalf("Flush is %.40q, %v, not %.40q, %v", gotPage, got, page, any)
	}
}

func checkHeld(t *testing.T, p *pack.Packer, bytes, pages int) {
	t.Helper()
	if gotBytes, gotPages := p.Held(); gotBytes != bytes || gotPages != pages {
		t.Fatalf("Held is %d, %d, not %d, %d", gotBytes, gotPages, bytes, pages)
	}
}

func checkPages(t *testing.T, want int, ok bool, size int, lengths ...int) {
	t.Helper()
	if got, gotOK := pack.Pages(size, lengths...); got != want || gotOK != ok {
		t.Fatalf("Pages(%d, %.60v) is %d, %v, not %d, %v", size, lengths, got, gotOK, want, ok)
	}
}

// sizeOf: the size that New makes of one.
func sizeOf(size int) int {
	if size < 1 {
		return 1
	}
	if size > api.MaxRaw {
		return api.MaxRaw
	}
	return size
}

func TestExample(t *testing.T) {
	p := pack.New(3)
	checkAdd(t, p, "ab", "", false, api.OK)
	checkAdd(t, p, "c", "", false, api.OK)
	checkAdd(t, p, "d", "abc", true, api.OK)
	checkFlush(t, p, "d", true)
	checkPages(t, 2, true, 3, 2, 1, 1)
}

func TestAddAndFlushAndHeld(t *testing.T) {
	p := pack.New(5)
	checkHeld(t, p, 0, 0)
	checkFlush(t, p, "", false)
	checkHeld(t, p, 0, 0)
	checkAdd(t, p, "abc", "", false, api.OK)
	checkHeld(t, p, 3, 0)
	checkAdd(t, p, "def", "abc", true, api.OK) // not split
	checkHeld(t, p, 3, 1)
	checkAdd(t, p, "gh", "", false, api.OK)
	checkHeld(t, p, 5, 1)
	checkAdd(t, p, "i", "defgh", true, api.OK)
	checkHeld(t, p, 1, 2)
	checkAdd(t, p, "jklmn", "i", true, api.OK)
	checkHeld(t, p, 5, 3)
	checkFlush(t, p, "jklmn", true)
	checkHeld(t, p, 0, 4)
	checkFlush(t, p, "", false)
	checkHeld(t, p, 0, 4)
	checkAdd(t, p, "\x00", "", false, api.OK)
	checkHeld(t, p, 1, 4)
	checkFlush(t, p, "\x00", true)
	checkHeld(t, p, 0, 5)
}

func TestAddOfWhatIsWrong(t *testing.T) {
	p := pack.New(3)
	checkAdd(t, p, "", "", false, api.ErrArg)
	checkAdd(t, p, "abcd", "", false, api.ErrLong)
	checkHeld(t, p, 0, 0)
	checkAdd(t, p, "a", "", false, api.OK)
	checkAdd(t, p, "", "", false, api.ErrArg)
	checkAdd(t, p, "abcd", "", false, api.ErrLong)
	checkAdd(t, p, strings.Repeat("x", 1<<20), "", false, api.ErrLong)
	checkHeld(t, p, 1, 0)
	checkAdd(t, p, "bc", "", false, api.OK)
	checkAdd(t, p, "abcd", "", false, api.ErrLong)
	checkHeld(t, p, 3, 0)
	checkFlush(t, p, "abc", true)
	checkHeld(t, p, 0, 1)
}

func TestSizes(t *testing.T) {
	for _, size := range []int{math.MinInt, -1, 0, 1, 2, 249, api.MaxRaw - 1, api.MaxRaw, api.MaxRaw + 1, math.MaxInt} {
		p := pack.New(size)
		if p == nil {
			t.Fatalf("New(%d) is nil", size)
		}
		all := strings.Repeat("x", sizeOf(size))
		checkAdd(t, p, all+"x", "", false, api.ErrLong)
		checkAdd(t, p, all, "", false, api.OK)
		checkAdd(t, p, "y", all, true, api.OK)
		checkFlush(t, p, "y", true)
		checkHeld(t, p, 0, 2)
		checkPages(t, 0, false, size, len(all)+1)
		checkPages(t, 2, true, size, len(all), 1)
	}
}

func TestPages(t *testing.T) {
	checkPages(t, 0, true, 3)
	checkPages(t, 1, true, 3, 1)
	checkPages(t, 1, true, 3, 3)
	checkPages(t, 1, true, 3, 1, 1, 1)
	checkPages(t, 2, true, 3, 1, 1, 1, 1)
	checkPages(t, 3, true, 3, 2, 2, 2)
	checkPages(t, 3, true, 3, 2, 3, 1)
	checkPages(t, 2, true, 0, 1, 1)
	checkPages(t, 1, true, 1<<30, 1000, 1048)
	checkPages(t, 2, true, 1<<30, 1000, 1049)
	for _, wrong := range []int{math.MinInt, -1, 0, 4, 1 << 30, math.MaxInt} {
		checkPages(t, 0, false, 3, wrong)
		checkPages(t, 0, false, 3, wrong, 1, 2)
		checkPages(t, 0, false, 3, 1, 2, wrong)
	}
}

func TestPagesLeavesTheLengthsAlone(t *testing.T) {
	lengths := append(make([]int, 0, 8), 2, 1, 1)
	spare := lengths[:8]
	checkPages(t, 2, true, 3, lengths...)
	if !slices.Equal(spare, []int{2, 1, 1, 0, 0, 0, 0, 0}) {
		t.Errorf("the lengths are %v now", spare)
	}
}

// slowPages: the pages of texts, by the chapter's words.
func slowPages(size int, texts []string) []string {
	var pages []string
	held := ""
	for _, s := range texts {
		if len(held)+len(s) > size {
			pages, held = append(pages, held), ""
		}
		held += s
	}
	if held != "" {
		pages = append(pages, held)
	}
	return pages
}

func TestAnyTexts(t *testing.T) {
	random := rand.New(rand.NewSource(1))
	for range 3000 {
		size := 1 + random.Intn(40)
		var texts, pages []string
		var lengths []int
		p := pack.New(size)
		for range random.Intn(60) {
			s := make([]byte, 1+random.Intn(size))
			random.Read(s)
			texts, lengths = append(texts, string(s)), append(lengths, len(s))
			page, full, err := p.Add(string(s))
			if err != api.OK || full != (page != "") {
				t.Fatalf("Add is %q, %v, %d", page, full, err)
			}
			if full {
				pages = append(pages, page)
			}
			if _, given := p.Held(); given != len(pages) {
				t.Fatalf("%d pages were given, not %d", given, len(pages))
			}
		}
		if page, any := p.Flush(); any {
			pages = append(pages, page)
		}
		if want := slowPages(size, texts); !slices.Equal(pages, want) {
			t.Fatalf("the pages of %q are %q, not %q", texts, pages, want)
		}
		checkHeld(t, p, 0, len(pages))
		checkPages(t, len(pages), true, size, lengths...)
	}
}

func TestNil(t *testing.T) {
	var p *pack.Packer
	checkAdd(t, p, "", "", false, api.ErrArg)
	checkAdd(t, p, "a", "", false, api.ErrArg)
	checkFlush(t, p, "", false)
	checkHeld(t, p, 0, 0)
}

func TestPackersAreApart(t *testing.T) {
	p, q := pack.New(3), pack.New(3)
	checkAdd(t, p, "ab", "", false, api.OK)
	checkAdd(t, q, "cd", "", false, api.OK)
	checkFlush(t, p, "ab", true)
	checkHeld(t, q, 2, 0)
	checkFlush(t, q, "cd", true)
}

func TestPagesOfAPackerAreNew(t *testing.T) {
	p := pack.New(40)
	first := strings.Repeat("a", 40)
	checkAdd(t, p, first, "", false, api.OK)
	page, _, _ := p.Add(strings.Repeat("b", 40))
	last, _ := p.Flush()
	checkAdd(t, p, strings.Repeat("c", 40), "", false, api.OK)
	if page != first || last != strings.Repeat("b", 40) {
		t.Errorf("the pages became %q and %q", page, last)
	}
	if unsafe.StringData(page) == unsafe.StringData(first) {
		t.Error("a page shares memory with an argument")
	}
}
