package parity_test

import (
	"math"
	"math/rand"
	"slices"
	"strings"
	"testing"
	"unsafe"

	"chert/api"
	"chert/nand"
	"chert/parity"
)

func mustPlan(t *testing.T, pages int, single bool) parity.Plan {
	t.Helper()
	plan, ok := parity.Of(pages, single)
	if !ok {
		t.Fatalf("Of(%d, %v) is refused", pages, single)
	}
	return plan
}

func checkPages(t *testing.T, what string, got, want []int) {
	t.Helper()
	if !slices.Equal(got, want) {
		t.Errorf("%s: %v, not %v", what, got, want)
	}
}

func anyText(random *rand.Rand, n int) string {
	b := make([]byte, n)
	random.Read(b)
	return string(b)
}

// everyPlan calls a test with each plan that there is.
func everyPlan(t *testing.T, test func(pages int, single bool, plan parity.Plan)) {
	t.Helper()
	for pages := 4; pages <= api.MaxPages; pages += 4 {
		for _, single := range []bool{false, true} {
			test(pages, single, mustPlan(t, pages, single))
		}
	}
}

func TestGroup(t *testing.T) {
	for p, want := range []int{0, 0, 1, 1, 0, 0, 1, 1, 0, 0, 1, 1} {
		if got := parity.Group(p); got != want {
			t.Errorf("Group(%d) is %d", p, got)
		}
	}
	for _, c := range [][2]int{
		{-1, 0}, {-2, 0}, {-3, 0}, {-4, 0}, {-5, 0}, {math.MinInt, 0}, {math.MinInt + 2, 0},
		{64, 0}, {67, 1}, {math.MaxInt, 1}, {math.MaxInt - 1, 1}, {math.MaxInt - 2, 0}, {math.MaxInt - 3, 0},
	} {
		if got := parity.Group(c[0]); got != c[1] {
			t.Errorf("Group(%d) is %d", c[0], got)
		}
	}
}

func TestPairedPagesAreInTwoGroups(t *testing.T) {
	for p := range 2 * api.MaxPages {
		other, upper := nand.Pair(p)
		if parity.Group(p) == parity.Group(other) || upper != (parity.Group(p) == 1) {
			t.Errorf("pages %d and %d are in groups %d and %d", p, other, parity.Group(p), parity.Group(other))
		}
	}
}

func TestOf(t *testing.T) {
	for _, c := range []struct {
		pages        int
		single       bool
		data, parity []int
	}{
		{4, true, []int{0}, []int{1}},
		{4, false, []int{0}, []int{1, 3}},
		{8, true, []int{0, 1, 4}, []int{5}},
		{8, false, []int{0, 1, 2, 3, 4}, []int{5, 7}},
		{12, true, []int{0, 1, 4, 5, 8}, []int{9}},
		{12, false, []int{0, 1, 2, 3, 4, 5, 6, 7, 8}, []int{9, 11}},
		{16, true, []int{0, 1, 4, 5, 8, 9, 12}, []int{13}},
	} {
		plan := mustPlan(t, c.pages, c.single)
		checkPages(t, "Data", plan.Data, c.data)
		checkPages(t, "Parity", plan.Parity, c.parity)
	}
}

func TestOfWrongNumbers(t *testing.T) {
	for _, pages := range []int{0, 1, 2, 3, 5, 6, 7, 9, 10, 63, 65, 66, 68, 128, -1, -4, -8, math.MinInt, math.MaxInt, math.MaxInt - 3} {
		for _, single := range []bool{false, true} {
			if plan, ok := parity.Of(pages, single); ok || plan.Data != nil || plan.Parity != nil {
				t.Errorf("Of(%d, %v) is %v, %v", pages, single, plan, ok)
			}
		}
	}
}

// slowPlan goes by the chapter's words.
func slowPlan(pages int, single bool) parity.Plan {
	var lower []int
	for p := range pages {
		if _, upper := nand.Pair(p); !upper {
			lower = append(lower, p)
		}
	}
	last := lower[len(lower)-1]
	if single {
		return parity.Plan{Data: lower[:len(lower)-1], Parity: []int{last}}
	}
	plan := parity.Plan{Parity: []int{last, pages - 1}}
	for p := 0; p < last; p++ {
		plan.Data = append(plan.Data, p)
	}
	return plan
}

func TestOfEachNumber(t *testing.T) {
	everyPlan(t, func(pages int, single bool, plan parity.Plan) {
		want := slowPlan(pages, single)
		checkPages(t, "Data", plan.Data, want.Data)
		checkPages(t, "Parity", plan.Parity, want.Parity)
	})
}

// TestPagesAreWrittenInOrder: the data, and then the parities, as a chip takes them.
func TestPagesAreWrittenInOrder(t *testing.T) {
	everyPlan(t, func(pages int, single bool, plan parity.Plan) {
		c, _ := nand.New(1, pages, 1)
		for _, p := range slices.Concat(plan.Data, plan.Parity) {
			if err := c.Program(0, p, "x"); err != api.OK {
				t.Errorf("%d pages, single %v: Program of page %d is %d", pages, single, p, err)
			}
		}
		for group, p := range plan.Parity {
			if parity.Group(p) != group {
				t.Errorf("%d pages, single %v: the parity of group %d is on page %d", pages, single, group, p)
			}
		}
		erased := 0
		for p := range pages {
			if s, _ := c.Read(0, p); s == "\xff" {
				erased++
				if single && parity.Group(p) == 0 || !single && p != pages-2 {
					t.Errorf("%d pages, single %v: page %d is not used", pages, single, p)
				}
			}
		}
		if single && erased != pages/2 || !single && erased != 1 {
			t.Errorf("%d pages, single %v: %d pages are not used", pages, single, erased)
		}
	})
}

// TestTornPageHitsAGroupOnce: whichever page is torn, a group loses no two pages.
func TestTornPageHitsAGroupOnce(t *testing.T) {
	everyPlan(t, func(pages int, single bool, plan parity.Plan) {
		order := slices.Concat(plan.Data, plan.Parity)
		for n := range order {
			c, _ := nand.New(1, pages, 1)
			c.Cut(n+1, 4) // spoils the page, and the lower one of an upper one
			for _, p := range order[:n+1] {
				c.Program(0, p, "x")
			}
			c.On()
			var lost [2]int
			for _, p := range order {
				if s, _ := c.Read(0, p); s == "\x00" {
					lost[parity.Group(p)]++
				}
			}
			if lost[0] > 1 || lost[1] > 1 || single && lost[0] != 1 {
				t.Errorf("%d pages, single %v: page %d torn, %v lost", pages, single, order[n], lost)
			}
		}
	})
}

func TestMembers(t *testing.T) {
	plan := mustPlan(t, 8, false)
	checkPages(t, "group 0", plan.Members(0), []int{0, 1, 4})
	checkPages(t, "group 1", plan.Members(1), []int{2, 3})
	single := mustPlan(t, 12, true)
	checkPages(t, "group 0 in single mode", single.Members(0), []int{0, 1, 4, 5, 8})
	checkPages(t, "group 1 in single mode", single.Members(1), nil)
	least := mustPlan(t, 4, false)
	checkPages(t, "group 0 of four pages", least.Members(0), []int{0})
	checkPages(t, "group 1 of four pages", least.Members(1), nil)
	for _, group := range []int{-1, 2, 3, 4, math.MinInt, math.MaxInt} {
		checkPages(t, "no group", plan.Members(group), nil)
		checkPages(t, "no group in single mode", single.Members(group), nil)
	}
	var zero parity.Plan
	for group := -1; group < 3; group++ {
		checkPages(t, "a zero plan", zero.Members(group), nil)
	}
}

// TestMembersOfEachPlan: each data page is in one group, and its parity is not among them.
func TestMembersOfEachPlan(t *testing.T) {
	everyPlan(t, func(pages int, single bool, plan parity.Plan) {
		all := slices.Concat(plan.Members(0), plan.Members(1))
		for group := range 2 {
			members := plan.Members(group)
			if !slices.IsSorted(members) {
				t.Errorf("%d pages, single %v: group %d is %v", pages, single, group, members)
			}
			for _, p := range members {
				if parity.Group(p) != group || slices.Contains(plan.Parity, p) {
					t.Errorf("%d pages, single %v: page %d is in group %d", pages, single, p, group)
				}
			}
		}
		slices.Sort(all)
		checkPages(t, "all members", all, plan.Data)
	})
}

// TestMembersOfAnyPlan: in the order that Data has.
func TestMembersOfAnyPlan(t *testing.T) {
	plan := parity.Plan{Data: []int{7, 4, 2, 0, 3, 5}}
	checkPages(t, "group 0", plan.Members(0), []int{4, 0, 5})
	checkPages(t, "group 1", plan.Members(1), []int{7, 2, 3})
	checkPages(t, "Data", plan.Data, []int{7, 4, 2, 0, 3, 5})
}

func TestXor(t *testing.T) {
	for _, c := range []struct {
		size     int
		payloads []string
		want     string
	}{
		{2, []string{"ab", "a"}, "\x00b"},
		{2, []string{"a", "ab"}, "\x00b"},
		{0, nil, ""},
		{0, []string{"abc"}, ""},
		{3, nil, "\x00\x00\x00"},
		{3, []string{""}, "\x00\x00\x00"},
		{3, []string{"x"}, "x\x00\x00"},
		{3, []string{"xyz"}, "xyz"},
		{3, []string{"xyzabc"}, "xyz"},
		{3, []string{"xyz", "xyz"}, "\x00\x00\x00"},
		{3, []string{"xyz", "xyz", "xyz"}, "xyz"},
		{2, []string{"\x01\x02", "\x04\x08", "\x10\x20", "\xff"}, "\xea\x2a"},
		{1, []string{"\xff", "\x0f"}, "\xf0"},
		{-1, []string{"abc"}, ""},
		{math.MinInt, []string{"abc"}, ""},
	} {
		if got := parity.Xor(c.size, c.payloads...); got != c.want {
			t.Errorf("Xor(%d, %q) is %q, not %q", c.size, c.payloads, got, c.want)
		}
	}
}

func TestXorOfGreatSizes(t *testing.T) {
	long := strings.Repeat("q", api.MaxRaw+10)
	for _, size := range []int{api.MaxRaw, api.MaxRaw + 1, 1 << 20, math.MaxInt} {
		if got := parity.Xor(size); got != strings.Repeat("\x00", api.MaxRaw) {
			t.Errorf("Xor(%d) has %d bytes", size, len(got))
		}
		if got := parity.Xor(size, long); got != long[:api.MaxRaw] {
			t.Errorf("Xor(%d) of a long payload has %d bytes", size, len(got))
		}
	}
	if got := parity.Xor(api.MaxRaw-1, long); got != long[:api.MaxRaw-1] {
		t.Errorf("Xor of one byte less has %d bytes", len(got))
	}
}

func TestXorOfAny(t *testing.T) {
	random := rand.New(rand.NewSource(1))
	for range 300 {
		size := random.Intn(40)
		payloads := make([]string, random.Intn(6))
		for i := range payloads {
			payloads[i] = anyText(random, random.Intn(50))
		}
		got := parity.Xor(size, payloads...)
		if len(got) != size {
			t.Fatalf("Xor(%d) has %d bytes", size, len(got))
		}
		for i := range size {
			var want byte
			for _, payload := range payloads {
				if i < len(payload) {
					want ^= payload[i]
				}
			}
			if got[i] != want {
				t.Errorf("Xor(%d, %q) has %x at %d, not %x", size, payloads, got[i], i, want)
			}
		}
	}
}

// TestXorRestores: each payload, from all others and their parity.
func TestXorRestores(t *testing.T) {
	random := rand.New(rand.NewSource(2))
	for _, size := range []int{1, 25, 249, api.MaxRaw} {
		for n := 1; n < 8; n++ {
			payloads := make([]string, n)
			for i := range payloads {
				payloads[i] = anyText(random, size)
			}
			all := append(payloads, parity.Xor(size, payloads...))
			for i, want := range all {
				others := slices.Concat(all[:i], all[i+1:])
				if parity.Xor(size, others...) != want {
					t.Errorf("%d payloads of %d bytes: %d is not restored", n, size, i)
				}
			}
		}
	}
}

// TestAnswersAreNew: what one answer becomes, no other one shows, nor the plan.
func TestAnswersAreNew(t *testing.T) {
	everyPlan(t, func(pages int, single bool, plan parity.Plan) {
		want := slowPlan(pages, single)
		for group := range 2 {
			members := plan.Members(group)
			for i := range members[:cap(members)] {
				members[:cap(members)][i] = -7
			}
		}
		checkPages(t, "Data", plan.Data, want.Data)
		for i := range plan.Data[:cap(plan.Data)] {
			plan.Data[:cap(plan.Data)][i] = -7
		}
		checkPages(t, "Parity", plan.Parity, want.Parity)
		again := mustPlan(t, pages, single)
		checkPages(t, "Data again", again.Data, want.Data)
		checkPages(t, "Parity again", again.Parity, want.Parity)
	})
	payload := "one payload alone"
	first, second := parity.Xor(len(payload), payload), parity.Xor(len(payload), payload)
	a, b := unsafe.StringData(first), unsafe.StringData(second)
	if given := unsafe.StringData(payload); a == given || b == given || a == b {
		t.Error("a result shares memory")
	}
}

// TestPayloadsStay: the list that is handed in, and what is behind it.
func TestPayloadsStay(t *testing.T) {
	payloads := []string{"ab", "c", "spare"}
	parity.Xor(4, payloads[:2]...)
	if !slices.Equal(payloads, []string{"ab", "c", "spare"}) {
		t.Errorf("the payloads are %q", payloads)
	}
}
