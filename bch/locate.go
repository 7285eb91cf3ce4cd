package bch

// places: the exponents at which a code word differs from a word of which the generator leaves rest; false if none differs in at most t.
func (c *Code) places(rest remainder) ([]int, bool) {
	if rest == (remainder{}) {
		return nil, true
	}
	locator, ok := c.locator(c.syndromes(rest))
	if !ok {
		return nil, false
	}
	return c.roots(locator)
}

// syndromes: the word's values at the first 2t powers of the field's generator (the code's generator is 0 there, so the rest has the same).
func (c *Code) syndromes(rest remainder) []int {
	exponents := rest.exponents(c.degree)
	list := make([]int, 2*c.t)
	for i := range list {
		power := i + 1
		if power%2 == 0 { // a square, since the coefficients are their own squares
			root := list[power/2-1]
			list[i] = c.field.Mul(root, root)
			continue
		}
		for _, e := range exponents {
			list[i] ^= c.field.Exp(power * e)
		}
	}
	return list
}

// locator: the product of 1 + Exp(place)·x over all places, its constant term first; false if no t places have these syndromes.
// It is the shortest rule by which each syndrome follows from those before it, found by the way of Berlekamp and Massey.
func (c *Code) locator(syndromes []int) ([]int, bool) {
	rule, older := []int{1}, []int{1}
	length, olderGap, since := 0, 1, 1
	for n := range syndromes {
		gap := c.gap(rule, syndromes[:n+1])
		if gap == 0 {
			since++
			continue
		}
		inverse, _ := c.field.Inv(olderGap)
		mended := c.mended(rule, older, c.field.Mul(gap, inverse), since)
		if 2*length <= n {
			length, older, olderGap, since = n+1-length, rule, gap, 1
		} else {
			since++
		}
		rule = mended
	}
	rule = trimmed(rule)
	return rule, length <= c.t && len(rule) == length+1
}

// gap: how far the last of the syndromes is from what the rule tells.
func (c *Code) gap(rule, syndromes []int) int {
	sum := 0
	for i := range min(len(rule), len(syndromes)) {
		sum ^= c.field.Mul(rule[i], syndromes[len(syndromes)-1-i])
	}
	return sum
}

// mended: the rule plus an older one times factor·x^since.
func (c *Code) mended(rule, older []int, factor, since int) []int {
	sum := make([]int, max(len(rule), len(older)+since))
	copy(sum, rule)
	for i, coefficient := range older {
		sum[i+since] ^= c.field.Mul(factor, coefficient)
	}
	return sum
}

// trimmed: without the zeros at the end.
func trimmed(list []int) []int {
	for len(list) > 0 && list[len(list)-1] == 0 {
		list = list[:len(list)-1]
	}
	return list
}

// roots: the places of a locator; false if there are fewer than its degree among the coefficients of a word.
func (c *Code) roots(locator []int) ([]int, bool) {
	logs := c.logs(locator)
	last := locator[1] // the sum of Exp(place) over the places that are not yet found
	var list []int
	for place := 0; place < c.bits() && len(list) < len(locator)-2; place++ {
		if c.isRoot(logs, place) {
			list = append(list, place)
			last ^= c.field.Exp(place)
		}
	}
	if len(list) < len(locator)-2 {
		return nil, false
	}
	// With one place to be found there is no need to search; one that the search has passed would be there twice.
	place, ok := c.field.Log(last)
	if !ok || place >= c.bits() || len(list) > 0 && place <= list[len(list)-1] {
		return nil, false
	}
	return append(list, place), true
}

// logs: of the coefficients, -1 for 0.
func (c *Code) logs(coefficients []int) []int {
	list := make([]int, len(coefficients))
	for i, coefficient := range coefficients {
		list[i] = -1
		if n, ok := c.field.Log(coefficient); ok {
			list[i] = n
		}
	}
	return list
}

// isRoot: is the locator with these logs 0 at the inverse of Exp(place)?
func (c *Code) isRoot(logs []int, place int) bool {
	sum := 0
	for i, n := range logs {
		if n >= 0 {
			sum ^= c.field.Exp(n - i*place)
		}
	}
	return sum == 0
}
