package space

// The form of an index's pages, as layer 16 lays them.
const (
	headBytes     = 2       // of a page, before its entries
	lengthBytes   = 2       // of an entry, that tell how long its key and its value are
	locationBytes = 12      // of a leaf's value: where the node is
	linkBytes     = 2       // of a higher level's value: the number of a page
	mostEntries   = 255     // of a page
	mostIndex     = 1 << 16 // pages
)

// indexPages: how many pages the index of keys of these lengths takes; false if there is no such key, or no such index. The lengths alone tell it, as they do for pack.Pages, so no tree of made-up keys has to be stored.
func indexPages(size int, keys ...int) (int, bool) {
	for _, n := range keys {
		if n < 1 || n > mostKey {
			return 0, false
		}
	}
	pages := 0
	for value := locationBytes; ; value = linkBytes {
		keys = firsts(size, value, keys)
		pages += len(keys)
		if pages > mostIndex {
			return 0, false
		}
		if len(keys) <= 1 {
			return pages, true
		}
	}
}

// firsts: the length of the first key of each page that a level takes, whose values have so many bytes.
func firsts(size, value int, keys []int) []int {
	var list []int
	held, count := 0, 0 // of the last page
	for _, n := range keys {
		entry := lengthBytes + n + value
		if count == 0 || count == mostEntries || held+entry > size {
			list = append(list, n)
			held, count = headBytes, 0
		}
		held += entry
		count++
	}
	return list
}
