package index_test

import (
	"math/rand"
	"slices"
	"strings"
	"testing"

	"chert/api"
	"chert/btree"
	"chert/index"
)

// source gives pages, or errors in their place, and remembers what it was asked for.
type source struct {
	pages  []string
	errors map[int]api.Errno
	asked  []int
}

func (s *source) Page(n int) (string, api.Errno) {
	s.asked = append(s.asked, n)
	if err, wrong := s.errors[n]; wrong {
		return "beside an error nothing counts", err
	}
	if n < 0 || n >= len(s.pages) {
		return "", api.ErrMissing
	}
	return s.pages[n], api.OK
}

// from: a source of pages.
func from(pages ...string) *source { return &source{pages: pages} }

func treeOf(pairs ...api.Pair) *btree.Tree {
	t := &btree.Tree{}
	for _, p := range pairs {
		t.Set(p.Key, p.Value)
	}
	return t
}

// pairsOf: what a tree holds.
func pairsOf(t *btree.Tree) []api.Pair {
	var pairs []api.Pair
	for key, value := range t.Range("", "") {
		pairs = append(pairs, api.Pair{Key: key, Value: value})
	}
	return pairs
}

// text: an entry as the chapter has it.
func text(key, value string) string {
	return string([]byte{byte(len(key))}) + key + string([]byte{byte(len(value))}) + value
}

// pageOf: a page as the chapter has it, of keys and values in turn.
func pageOf(level int, texts ...string) string {
	page := string([]byte{byte(level), byte(len(texts) / 2)})
	for i := 0; i < len(texts); i += 2 {
		page += text(texts[i], texts[i+1])
	}
	return page
}

// link: the number of a page as a value.
func link(n int) string { return string([]byte{byte(n >> 8), byte(n)}) }

// slowStore lays the entries of a level into lists first, by the chapter's words.
func slowStore(pairs []api.Pair, size int) []string {
	var pages []string
	for level := 0; len(pairs) > 0; level++ {
		var lists [][]api.Pair
		room := 0
		for _, p := range pairs {
			n := 1 + len(p.Key) + 1 + len(p.Value)
			if last := len(lists) - 1; last < 0 || n > room || len(lists[last]) == 255 {
				lists, room = append(lists, nil), size-2
			}
			lists[len(lists)-1] = append(lists[len(lists)-1], p)
			room -= n
		}
		pairs = nil
		for _, list := range lists {
			var texts []string
			for _, p := range list {
				texts = append(texts, p.Key, p.Value)
			}
			pairs = append(pairs, api.Pair{Key: list[0].Key, Value: link(len(pages))})
			pages = append(pages, pageOf(level, texts...))
		}
		if len(lists) == 1 {
			break
		}
	}
	return pages
}

// slowPage is a page that was read; it is no page if it has no entries.
type slowPage struct {
	level   int
	entries []api.Pair
}

// slowRead reads a page by the chapter's words, byte after byte.
func slowRead(text string) slowPage {
	b := append([]byte(text), make([]byte, 2)...)
	p := slowPage{level: int(b[0])}
	at := 2
	part := func() string {
		if at >= len(text) || at+1+int(text[at]) > len(text) {
			at = len(text) + 1
			return ""
		}
		start := at + 1
		at = start + int(text[at])
		return text[start:at]
	}
	for range b[1] {
		e := api.Pair{Key: part()}
		e.Value = part()
		p.entries = append(p.entries, e)
	}
	ascends := slices.IsSortedFunc(p.entries, func(a, b api.Pair) int {
		if a.Key == b.Key {
			return 1
		}
		return strings.Compare(a.Key, b.Key)
	})
	if at > len(text) || !ascends {
		return slowPage{}
	}
	return p
}

// slowOpen reads a page that another one's entry leads to.
func slowOpen(s index.Source, number, level int, value string) (int, slowPage, api.Errno) {
	if len(value) != 2 {
		return 0, slowPage{}, api.ErrForm
	}
	n := int(value[0])*256 + int(value[1])
	if n >= number {
		return 0, slowPage{}, api.ErrForm
	}
	text, err := s.Page(n)
	if err != api.OK {
		return n, slowPage{}, err
	}
	p := slowRead(text)
	if len(p.entries) == 0 || p.level+1 != level {
		return n, slowPage{}, api.ErrForm
	}
	return n, p, api.OK
}

// slowRoot reads the last page.
func slowRoot(s index.Source, pages int) (slowPage, api.Errno) {
	text, err := s.Page(pages - 1)
	if err != api.OK {
		return slowPage{}, err
	}
	p := slowRead(text)
	if len(p.entries) == 0 {
		return p, api.ErrForm
	}
	return p, api.OK
}

// slowFind goes down by the chapter's words.
func slowFind(s index.Source, pages int, key string) (string, api.Errno) {
	p, err := slowRoot(s, pages)
	number := pages - 1
	for err == api.OK && p.level > 0 {
		value, any := "", false
		for _, e := range p.entries {
			if e.Key <= key {
				value, any = e.Value, true
			}
		}
		if !any {
			return "", api.ErrNone
		}
		number, p, err = slowOpen(s, number, p.level, value)
	}
	if err != api.OK {
		return "", err
	}
	for _, e := range p.entries {
		if e.Key == key {
			return e.Value, api.OK
		}
	}
	return "", api.ErrNone
}

// slowLoad looks at all pages that can be reached, and weighs the errors only then.
func slowLoad(s index.Source, pages int) ([]api.Pair, api.Errno) {
	var pairs []api.Pair
	var failures []api.Errno
	reached := map[int]int{}
	var visit func(number int, p slowPage)
	visit = func(number int, p slowPage) {
		if p.level == 0 {
			pairs = append(pairs, p.entries...)
			return
		}
		for _, e := range p.entries {
			n, below, err := slowOpen(s, number, p.level, e.Value)
			if reached[n]++; reached[n] > 1 {
				err = api.ErrForm
			}
			if err != api.OK {
				failures = append(failures, err)
				continue
			}
			visit(n, below)
		}
	}
	root, err := slowRoot(s, pages)
	if err != api.OK {
		return nil, err
	}
	visit(pages-1, root)
	for i := range pairs {
		if i > 0 && pairs[i-1].Key >= pairs[i].Key {
			failures = append(failures, api.ErrForm)
		}
	}
	if slices.Contains(failures, api.ErrForm) {
		return nil, api.ErrForm
	}
	if len(failures) > 0 {
		return nil, failures[0]
	}
	return pairs, api.OK
}

func checkStore(t *testing.T, tree *btree.Tree, size int, want []string, err api.Errno) {
	t.Helper()
	if pages, got := index.Store(tree, size); !slices.Equal(pages, want) || got != err {
		t.Fatalf("Store for %d bytes is %d pages %.200q, %d, not %d pages %.200q, %d", size, len(pages), pages, got, len(want), want, err)
	}
}

func checkFind(t *testing.T, s index.Source, pages int, key, want string, err api.Errno) {
	t.Helper()
	if value, got := index.Find(s, pages, key); value != want || got != err {
		t.Fatalf("Find(%.40q) is %.40q, %d, not %.40q, %d", key, value, got, want, err)
	}
}

func checkLoad(t *testing.T, s index.Source, pages int, want []api.Pair, err api.Errno) {
	t.Helper()
	tree, got := index.Load(s, pages)
	if got != err || (tree == nil) != (err != api.OK) || !slices.Equal(pairsOf(tree), want) {
		t.Fatalf("Load is %.200v, %d, not %.200v, %d", pairsOf(tree), got, want, err)
	}
}

// checkForm: neither Find of a key nor Load takes the pages for an index.
func checkForm(t *testing.T, key string, pages ...string) {
	t.Helper()
	checkFind(t, from(pages...), len(pages), key, "", api.ErrForm)
	checkLoad(t, from(pages...), len(pages), nil, api.ErrForm)
}

// anyPairs: up to so many of them in order, with keys and values of up to so many bytes.
func anyPairs(random *rand.Rand, many, most int) []api.Pair {
	t := &btree.Tree{}
	for range many {
		t.Set(anyText(random, random.Intn(most+1)), anyText(random, random.Intn(most+1)))
	}
	return pairsOf(t)
}

func anyText(random *rand.Rand, n int) string {
	b := make([]byte, n)
	for i := range b {
		b[i] = byte(random.Intn(256) * random.Intn(2))
	}
	return string(b)
}
