package index_test

import (
	"math"
	"math/rand"
	"slices"
	"strings"
	"testing"
	"unsafe"

	"chert/api"
	"chert/btree"
	"chert/index"
)

// threeLevels: an index of nine keys from b to r, each with its own letter twice as value.
func threeLevels() []string {
	return []string{
		pageOf(0, "b", "bb", "d", "dd"), pageOf(0, "f", "ff", "h", "hh"), pageOf(0, "j", "jj", "l", "ll"), pageOf(0, "n", "nn", "p", "pp", "r", "rr"),
		pageOf(1, "b", link(0), "f", link(1)), pageOf(1, "j", link(2), "n", link(3)),
		pageOf(2, "b", link(4), "j", link(5)),
	}
}

// with: the pages with another one at n.
func with(pages []string, n int, page string) []string {
	all := slices.Clone(pages)
	all[n] = page
	return all
}

func TestFind(t *testing.T) {
	pages := threeLevels()
	for c := 'a'; c <= 'z'; c++ {
		key := string(c)
		if c >= 'b' && c <= 'r' && c%2 == 0 {
			checkFind(t, from(pages...), 7, key, key+key, api.OK)
		} else {
			checkFind(t, from(pages...), 7, key, "", api.ErrNone)
		}
		checkFind(t, from(pages...), 7, key+"\x00", "", api.ErrNone)
	}
	checkFind(t, from(pages...), 7, "", "", api.ErrNone)
	checkFind(t, from(pages...), 7, strings.Repeat("r", 1000), "", api.ErrNone)
}

// TestFindFromAnotherRoot: which page is the root, the number of pages tells.
func TestFindFromAnotherRoot(t *testing.T) {
	pages := threeLevels()
	checkFind(t, from(pages...), 6, "l", "ll", api.OK)
	checkFind(t, from(pages...), 6, "b", "", api.ErrNone)
	checkFind(t, from(pages...), 5, "b", "bb", api.OK)
	checkFind(t, from(pages...), 1, "b", "bb", api.OK)
	checkFind(t, from(pages...), 1, "f", "", api.ErrNone)
	checkLoad(t, from(pages...), 1, []api.Pair{{Key: "b", Value: "bb"}, {Key: "d", Value: "dd"}}, api.OK)
}

func TestNoSource(t *testing.T) {
	for _, pages := range []int{math.MinInt, -1, 0, 1, 7, math.MaxInt} {
		checkFind(t, nil, pages, "a", "", api.ErrArg)
		checkLoad(t, nil, pages, nil, api.ErrArg)
	}
}

func TestNoPages(t *testing.T) {
	for _, pages := range []int{math.MinInt, -1, 0} {
		s := from(threeLevels()...)
		checkFind(t, s, pages, "b", "", api.ErrNone)
		checkLoad(t, s, pages, nil, api.OK)
		if len(s.asked) > 0 {
			t.Errorf("the source was asked for %v", s.asked)
		}
	}
}

func TestFindAsksForOnePageALevel(t *testing.T) {
	for key, want := range map[string][]int{"a": {6}, "b": {6, 4, 0}, "g": {6, 4, 1}, "r": {6, 5, 3}} {
		s := from(threeLevels()...)
		index.Find(s, 7, key)
		if !slices.Equal(s.asked, want) {
			t.Errorf("Find(%q) asked for %v, not %v", key, s.asked, want)
		}
	}
}

func TestErrorsOfTheSource(t *testing.T) {
	pages := threeLevels()
	for n := range pages {
		for _, err := range []api.Errno{api.ErrIO, api.ErrPower, api.ErrNone, api.ErrForm, -1, 9999} {
			s := &source{pages: pages, errors: map[int]api.Errno{n: err}}
			checkLoad(t, s, 7, nil, err)
			for _, key := range []string{"b", "d", "h", "j", "r"} {
				s.asked = nil
				value, got := index.Find(s, 7, key)
				if asked := slices.Contains(s.asked, n); asked && (value != "" || got != err) || !asked && got != api.OK {
					t.Errorf("Find(%q) is %q, %d with the error %d of page %d", key, value, got, err, n)
				}
			}
		}
	}
	checkFind(t, from(pages...), 8, "b", "", api.ErrMissing)
	checkFind(t, from(pages...), math.MaxInt, "b", "", api.ErrMissing)
	checkLoad(t, from(pages...), math.MaxInt, nil, api.ErrMissing)
}

func TestPadding(t *testing.T) {
	var padded, odd []string
	for i, page := range threeLevels() {
		padded = append(padded, page+strings.Repeat("\x00", 100*i))
		odd = append(odd, page+"\x00\x01x") // what comes after the entries is none
	}
	want := pairsOf(treeOfSource(t, from(threeLevels()...), 7))
	for _, pages := range [][]string{padded, odd} {
		checkLoad(t, from(pages...), 7, want, api.OK)
		for _, p := range want {
			checkFind(t, from(pages...), 7, p.Key, p.Value, api.OK)
		}
	}
}

func treeOfSource(t *testing.T, s index.Source, pages int) *btree.Tree {
	t.Helper()
	tree, err := index.Load(s, pages)
	if err != api.OK {
		t.Fatalf("Load is %d", err)
	}
	return tree
}

// TestLongTextsInPages: those that Store would not take.
func TestLongTextsInPages(t *testing.T) {
	long, longer := strings.Repeat("k", 65), strings.Repeat("k", 255)
	value := strings.Repeat("v", 255)
	leaf := pageOf(0, long, value, longer, long)
	checkFind(t, from(leaf), 1, long, value, api.OK)
	checkFind(t, from(leaf, pageOf(1, long, link(0))), 2, longer, long, api.OK)
	checkLoad(t, from(leaf, pageOf(1, long, link(0))), 2, []api.Pair{{Key: long, Value: value}, {Key: longer, Value: long}}, api.OK)
}

// TestWrongPages: in place of the root, of a page below it, and of a leaf, each on the way to the key l.
func TestWrongPages(t *testing.T) {
	pages := threeLevels()
	for _, n := range []int{6, 5, 2} {
		good := pages[n]
		for end := range good { // cut short, at each length
			checkForm(t, "l", with(pages, n, good[:end])...)
		}
		level := good[:1]
		for _, wrong := range []string{
			"", level, level + "\x00", level + "\x00" + good[2:], level + "\x03" + good[2:], level + "\xff" + good[2:], // too few entries
			level + "\x01\x05j\x00\x00", level + "\x01\x01j\xff\x00\x00", // cut within an entry
			good[:1] + "\x03" + good[2:] + good[2:7],                                     // the first key again
			level + "\x02" + text("l", good[4:6]) + text("j", good[4:6]),                 // descending
			level + "\x02" + text("l", link(2)) + text("l", link(2)),                     // equal
			level + "\x03" + good[2:] + text("a", link(1)),                               // the last one is out of order
			level + "\x03" + text("", link(1)) + text("k", link(2)) + text("j", link(0)), // likewise, with an empty key
		} {
			checkForm(t, "l", with(pages, n, wrong)...)
		}
	}
}

func TestWrongLevels(t *testing.T) {
	pages := threeLevels()
	for n, page := range pages[:6] {
		key := []string{"b", "f", "j", "n", "b", "j"}[n]
		for level := range 256 {
			if level != int(page[0]) {
				checkForm(t, key, with(pages, n, string([]byte{byte(level)})+page[1:])...)
			}
		}
	}
	for level := 1; level < 256; level++ { // of the root
		if level != 2 {
			checkForm(t, "j", with(pages, 6, pageOf(level, "b", link(4), "j", link(5)))...)
		}
	}
	leaf := with(pages, 6, pageOf(0, "b", link(4), "j", link(5)))
	checkFind(t, from(leaf...), 7, "j", link(5), api.OK)
	checkFind(t, from(leaf...), 7, "l", "", api.ErrNone)
	checkLoad(t, from(leaf...), 7, []api.Pair{{Key: "b", Value: link(4)}, {Key: "j", Value: link(5)}}, api.OK)
	early := with(pages, 6, pageOf(2, "b", link(0)))
	checkForm(t, "b", early...)
	checkForm(t, "c", early...) // the leaf has no c, but comes too early to be asked for it
}

// TestDeepIndex: as many levels as there can be, with a page each.
func TestDeepIndex(t *testing.T) {
	pages := []string{pageOf(0, "a", "1")}
	for level := 1; level < 256; level++ {
		pages = append(pages, pageOf(level, "a", link(level-1)))
	}
	checkFind(t, from(pages...), 256, "a", "1", api.OK)
	checkLoad(t, from(pages...), 256, []api.Pair{{Key: "a", Value: "1"}}, api.OK)
	checkForm(t, "a", append(pages, pageOf(0, "a", link(255)), pageOf(255, "a", link(255)))...)
}

// TestWrongNumbers: a page's number is less than that of the page that led to it, or the source isn't asked.
func TestWrongNumbers(t *testing.T) {
	pages := threeLevels()
	for _, n := range []int{5, 6, 7, 255, 256, 65535} {
		wrong := with(pages, 5, pageOf(1, "j", link(n), "n", link(3)))
		checkForm(t, "j", wrong...)
		s := from(wrong...)
		index.Find(s, 7, "j")
		if want := []int{6, 5}; !slices.Equal(s.asked, want) {
			t.Errorf("Find asked for %v, not %v", s.asked, want)
		}
		s.asked = nil
		index.Load(s, 7)
		if slices.Contains(s.asked, n) && n != 5 && n != 6 {
			t.Errorf("Load asked for %v", s.asked)
		}
		checkFind(t, from(wrong...), 7, "p", "pp", api.OK) // on another way
	}
}

// TestValuesThatLeadNowhere: only the entry that leads on has to have two bytes.
func TestValuesThatLeadNowhere(t *testing.T) {
	pages := threeLevels()
	for _, value := range []string{"", "\x00", "\x02", "\x00\x00\x02", "\x00\x02\x00", strings.Repeat("\x00", 7) + "\x02", strings.Repeat("\x00", 255)} {
		wrong := with(pages, 5, pageOf(1, "j", value, "n", link(3)))
		checkForm(t, "j", wrong...)
		checkForm(t, "m", wrong...)
		checkFind(t, from(wrong...), 7, "p", "pp", api.OK)
		wrong = with(pages, 5, pageOf(1, "j", link(2), "n", value))
		checkForm(t, "n", wrong...)
		checkFind(t, from(wrong...), 7, "l", "ll", api.OK)
		checkFind(t, from(with(pages, 5, pageOf(1, "k", value, "n", link(3)))...), 7, "j", "", api.ErrNone)
	}
}

func TestLoad(t *testing.T) {
	var want []api.Pair
	for c := 'b'; c <= 'r'; c += 2 {
		want = append(want, api.Pair{Key: string(c), Value: string([]rune{c, c})})
	}
	s := from(threeLevels()...)
	checkLoad(t, s, 7, want, api.OK)
	slices.Sort(s.asked)
	if want := []int{0, 1, 2, 3, 4, 5, 6}; !slices.Equal(s.asked, want) {
		t.Errorf("Load asked for %v", s.asked)
	}
	// What isn't reached isn't looked at.
	checkLoad(t, from(with(threeLevels(), 6, pageOf(2, "j", link(5)))...), 7, want[4:], api.OK)
	checkLoad(t, from(append([]string{"wrong"}, pageOf(0, "a", "1"))...), 2, []api.Pair{{Key: "a", Value: "1"}}, api.OK)
	// The keys of higher levels aren't held against those below.
	checkLoad(t, from(with(threeLevels(), 6, pageOf(2, "x", link(4), "y", link(5)))...), 7, want, api.OK)
}

func TestLoadOfPagesThatAreReachedTwice(t *testing.T) {
	pages := threeLevels()
	checkLoad(t, from(with(pages, 6, pageOf(2, "b", link(4), "j", link(4)))...), 7, nil, api.ErrForm)
	checkLoad(t, from(with(pages, 5, pageOf(1, "j", link(2), "n", link(1)))...), 7, nil, api.ErrForm)
	checkLoad(t, from(with(pages, 5, pageOf(1, "j", link(2), "n", link(2)))...), 7, nil, api.ErrForm)
	checkFind(t, from(with(pages, 6, pageOf(2, "b", link(4), "j", link(4)))...), 7, "h", "hh", api.OK)
	s := &source{pages: with(pages, 5, pageOf(1, "j", link(2), "n", link(2))), errors: map[int]api.Errno{2: api.ErrIO}}
	checkLoad(t, s, 7, nil, api.ErrForm)
}

func TestLoadOfLeavesOutOfOrder(t *testing.T) {
	pages := threeLevels()
	for _, first := range []string{"l", "k", "a", ""} { // the leaf before ends with l
		wrong := with(pages, 3, pageOf(0, first, "1", "r", "2"))
		checkLoad(t, from(wrong...), 7, nil, api.ErrForm)
		checkFind(t, from(wrong...), 7, "r", "2", api.OK)
	}
	checkLoad(t, from(with(pages, 6, pageOf(2, "b", link(5), "j", link(4)))...), 7, nil, api.ErrForm)
	_, err := index.Load(from(with(pages, 3, pageOf(0, "l\x00", "1", "r", "2"))...), 7)
	if err != api.OK {
		t.Errorf("Load is %d", err)
	}
}

// TestLoadOfSeveralErrors: ErrForm goes before the error of the source, wherever each of them is; of several of the source it is the first.
func TestLoadOfSeveralErrors(t *testing.T) {
	pages := threeLevels()
	for n := range 4 {
		for other := range 4 {
			if n == other {
				continue
			}
			s := &source{pages: with(pages, other, "wrong"), errors: map[int]api.Errno{n: api.ErrIO}}
			checkLoad(t, s, 7, nil, api.ErrForm)
			s = &source{pages: pages, errors: map[int]api.Errno{max(n, other): api.ErrPower, min(n, other): api.ErrIO}}
			checkLoad(t, s, 7, nil, api.ErrIO)
		}
	}
	s := &source{pages: with(pages, 3, pageOf(0, "h", "1")), errors: map[int]api.Errno{2: api.ErrIO}}
	checkLoad(t, s, 7, nil, api.ErrForm) // h stands before the lost leaf already
}

// TestStoredIsFound: P16.4.
func TestStoredIsFound(t *testing.T) {
	random := rand.New(rand.NewSource(2))
	for range 60 {
		pairs := anyPairs(random, random.Intn(500), []int{2, 4, 20, 64}[random.Intn(4)])
		tree := treeOf(pairs...)
		pages, err := index.Store(tree, []int{200, 230, 500, 2048}[random.Intn(4)])
		if err != api.OK {
			t.Fatalf("Store is %d", err)
		}
		checkLoad(t, from(pages...), len(pages), pairs, api.OK)
		for _, p := range pairs {
			checkFind(t, from(pages...), len(pages), p.Key, p.Value, api.OK)
			for _, near := range []string{p.Key + "\x00", anyText(random, 1+random.Intn(3))} {
				value, has := tree.Get(near)
				if has {
					checkFind(t, from(pages...), len(pages), near, value, api.OK)
				} else {
					checkFind(t, from(pages...), len(pages), near, "", api.ErrNone)
				}
			}
		}
	}
}

// damage changes a page somehow, or has the source tell an error for it.
func damage(random *rand.Rand, s *source) {
	n := random.Intn(len(s.pages))
	b := []byte(s.pages[n])
	if len(b) < 2 {
		b = []byte{0, 1}
	}
	switch random.Intn(8) {
	case 0:
		b[random.Intn(len(b))] ^= 1 << random.Intn(8)
	case 1:
		b = b[:random.Intn(len(b)+1)]
	case 2:
		b[random.Intn(2)] += byte(random.Intn(3) - 1)
	case 3:
		other := random.Intn(len(s.pages))
		s.pages[other], b = string(b), []byte(s.pages[other])
	case 4:
		b = []byte(s.pages[random.Intn(len(s.pages))])
	case 5:
		b[len(b)-1] += byte(random.Intn(5) - 2) // a link, or a value
	case 6:
		s.errors[n] = []api.Errno{api.ErrIO, api.ErrPower}[random.Intn(2)]
	case 7:
		b = []byte(anyText(random, random.Intn(300)))
	}
	s.pages[n] = string(b)
}

// TestDamagedPages compares what is read of pages that are damaged somehow with a slow reading.
func TestDamagedPages(t *testing.T) {
	random := rand.New(rand.NewSource(3))
	told := map[api.Errno]int{}
	for range 6000 {
		pairs := anyPairs(random, 1+random.Intn(60), []int{2, 20, 64}[random.Intn(3)])
		pages, _ := index.Store(treeOf(pairs...), 200)
		s := &source{pages: pages, errors: map[int]api.Errno{}}
		for range 1 + random.Intn(3) {
			damage(random, s)
		}
		want, err := slowLoad(s, len(s.pages))
		told[err]++
		checkLoad(t, s, len(s.pages), want, err)
		for _, p := range append(pairs, api.Pair{}, api.Pair{Key: "\xff"}) {
			value, err := slowFind(s, len(s.pages), p.Key)
			checkFind(t, s, len(s.pages), p.Key, value, err)
		}
	}
	for _, err := range []api.Errno{api.OK, api.ErrForm, api.ErrIO, api.ErrPower} {
		if told[err] < 50 {
			t.Errorf("Load was %d only %d times", err, told[err])
		}
	}
}

// broken has a method that looks at what a pointer points to.
type broken struct{ text string }

func (b *broken) Page(int) (string, api.Errno) { return b.text, api.OK }

func TestSourceThatPanics(t *testing.T) {
	var none *broken
	checkFind(t, none, 1, "a", "", api.ErrArg)
	checkLoad(t, none, 1, nil, api.ErrArg)
	checkFind(t, &broken{pageOf(0, "a", "1")}, 1, "a", "1", api.OK)
}

func TestTextsAreNew(t *testing.T) {
	key, value := strings.Repeat("k", 40), strings.Repeat("v", 40)
	page := pageOf(0, key, value)
	tree := treeOfSource(t, from(page), 1)
	seen := map[*byte]string{unsafe.StringData(page[3:]): "a key of a page", unsafe.StringData(page[44:]): "a value of a page"}
	check := func(name, text string) {
		t.Helper()
		if other, shared := seen[unsafe.StringData(text)]; shared {
			t.Errorf("%s shares memory with %s", name, other)
		}
		seen[unsafe.StringData(text)] = name
	}
	for range 2 {
		found, _ := index.Find(from(page), 1, key)
		check("what was found", found)
	}
	for k, v := range tree.Range("", "") {
		check("a loaded key", k)
		check("a loaded value", v)
	}
	first, _ := index.Store(tree, 200)
	second, _ := index.Store(tree, 200)
	check("a page", first[0])
	check("the same page again", second[0])
}
