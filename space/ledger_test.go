package space_test

import (
	"math"
	"math/rand"
	"slices"
	"testing"

	"chert/space"
)

func checkTake(t *testing.T, l *space.Ledger, id, bytes int, want bool) {
	t.Helper()
	if got := l.Take(id, bytes); got != want {
		t.Fatalf("Take(%d, %d) is %v", id, bytes, got)
	}
}

func checkLive(t *testing.T, l *space.Ledger, id, live, all int) {
	t.Helper()
	if got, gotAll := l.Live(id); got != live || gotAll != all {
		t.Fatalf("Live(%d) is %d, %d, not %d, %d", id, got, gotAll, live, all)
	}
}

func checkDead(t *testing.T, l *space.Ledger, want ...int) {
	t.Helper()
	if got := l.Dead(); !slices.Equal(got, want) {
		t.Fatalf("Dead is %v, not %v", got, want)
	}
}

func TestLedger(t *testing.T) {
	var l space.Ledger
	checkLive(t, &l, 7, 0, 0)
	checkDead(t, &l)
	checkTake(t, &l, 7, 1, false)
	l.Add(7, 10)
	l.Add(3, 5)
	l.Add(7, 1)
	checkLive(t, &l, 7, 11, 16)
	checkLive(t, &l, 3, 5, 16)
	checkLive(t, &l, 4, 0, 16)
	checkDead(t, &l)
	checkTake(t, &l, 7, 12, false)
	checkTake(t, &l, 4, 1, false)
	checkLive(t, &l, 7, 11, 16)
	checkTake(t, &l, 7, 4, true)
	checkLive(t, &l, 7, 7, 12)
	checkTake(t, &l, 7, 7, true)
	checkLive(t, &l, 7, 0, 5)
	checkDead(t, &l, 7)
	checkTake(t, &l, 7, 1, false)
	checkTake(t, &l, 3, 5, true)
	checkLive(t, &l, 3, 0, 0)
	checkDead(t, &l, 3, 7)
	l.Add(7, 2) // lives again
	checkDead(t, &l, 3)
	checkLive(t, &l, 7, 2, 2)
}

func TestLedgerOfNoBytes(t *testing.T) {
	var l space.Ledger
	for _, none := range []int{math.MinInt, -1, 0} {
		l.Add(1, none)
		checkLive(t, &l, 1, 0, 0)
		checkDead(t, &l) // nothing was added to it
		checkTake(t, &l, 1, none, false)
	}
	checkTake(t, &l, 2, 3, false)
	checkDead(t, &l)
	l.Add(1, 5)
	for _, none := range []int{math.MinInt, -1, 0} {
		l.Add(1, none)
		checkTake(t, &l, 1, none, false)
		checkLive(t, &l, 1, 5, 5)
	}
	checkTake(t, &l, 1, 5, true)
	for _, none := range []int{math.MinInt, -1, 0} {
		l.Add(1, none)
		checkTake(t, &l, 1, none, false)
		checkLive(t, &l, 1, 0, 0)
		checkDead(t, &l, 1)
	}
}

// TestLedgerOfAnyNumbers: every int is a logical block.
func TestLedgerOfAnyNumbers(t *testing.T) {
	var l space.Ledger
	ids := []int{0, math.MaxInt, -1, math.MinInt, 1 << 40, 5}
	for i, id := range ids {
		l.Add(id, 1<<59)
		checkLive(t, &l, id, 1<<59, (i+1)<<59)
	}
	l.Add(5, 2<<59)
	checkLive(t, &l, 5, 3<<59, 1<<62)
	checkTake(t, &l, 5, 3<<59, true)
	for _, id := range ids[:5] {
		checkTake(t, &l, id, math.MaxInt, false)
		checkTake(t, &l, id, 1<<59, true)
	}
	checkLive(t, &l, 0, 0, 0)
	checkDead(t, &l, math.MinInt, -1, 0, 5, 1<<40, math.MaxInt)
}

// TestLedgerOfTooManyBytes: nothing is promised of the sums, but that each call ends.
func TestLedgerOfTooManyBytes(t *testing.T) {
	var l space.Ledger
	for range 5 {
		l.Add(1, math.MaxInt)
		l.Take(1, math.MaxInt)
		l.Add(1, math.MaxInt)
		l.Live(1)
		l.Dead()
	}
}

func TestAnyCallsOfALedger(t *testing.T) {
	random := rand.New(rand.NewSource(3))
	for range 300 {
		var l space.Ledger
		live, held := [9]int{}, [9]bool{}
		for range random.Intn(80) {
			i, bytes := random.Intn(len(live)), random.Intn(6)-1
			id := i - 4
			if random.Intn(2) == 0 {
				l.Add(id, bytes)
				live[i] += max(bytes, 0)
				held[i] = held[i] || bytes > 0
			} else {
				ok := bytes > 0 && bytes <= live[i]
				checkTake(t, &l, id, bytes, ok)
				if ok {
					live[i] -= bytes
				}
			}
			all := 0
			var dead []int
			for j := range live {
				all += live[j]
				if held[j] && live[j] == 0 {
					dead = append(dead, j-4)
				}
			}
			checkLive(t, &l, id, live[i], all)
			checkDead(t, &l, dead...)
		}
	}
}

func TestDeadIsNew(t *testing.T) {
	var l space.Ledger
	for id := range 5 {
		l.Add(id, 1)
		l.Take(id, 1)
	}
	l.Dead()[0] = 99
	checkDead(t, &l, 0, 1, 2, 3, 4)
}

func TestLedgersAreApart(t *testing.T) {
	var l, m space.Ledger
	l.Add(1, 2)
	m.Add(1, 3)
	checkLive(t, &l, 1, 2, 2)
	checkTake(t, &m, 1, 3, true)
	checkDead(t, &l)
	checkDead(t, &m, 1)
}

func TestNilLedger(t *testing.T) {
	var l *space.Ledger
	l.Add(1, 2)
	checkTake(t, l, 1, 2, false)
	checkTake(t, l, 1, 0, false)
	checkLive(t, l, 1, 0, 0)
	checkDead(t, l)
}
