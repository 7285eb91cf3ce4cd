package node_test

import (
	"math"
	"math/rand"
	"strings"
	"testing"

	"chert/api"
	"chert/node"
)

// rawLabel: a label of any bytes, valid or not, with the right sum.
func rawLabel(kind byte, gen, number, total uint64) string {
	return sealed(string([]byte{kind}) + eight(gen, number, total))
}

func checkPutLabel(t *testing.T, l node.Label, want string, wantOK bool) {
	t.Helper()
	if got, ok := node.PutLabel(l); got != want || ok != wantOK {
		t.Errorf("PutLabel(%v) is %x, %v, not %x, %v", l, got, ok, want, wantOK)
	}
}

func checkGetLabel(t *testing.T, s string, want node.Label, wantOK bool) {
	t.Helper()
	if got, ok := node.GetLabel(s); got != want || ok != wantOK {
		t.Errorf("GetLabel(%x) is %v, %v, not %v, %v", s, got, ok, want, wantOK)
	}
}

// checkLabel: a label is put and got as it must be, whether it is valid or not.
func checkLabel(t *testing.T, l node.Label) {
	t.Helper()
	text := rawLabel(l.Kind, uint64(l.Gen), uint64(l.Number), uint64(l.Total))
	if l.Kind >= 'A' && l.Kind <= 'Z' && inRange(l.Gen, l.Number, l.Total) {
		checkPutLabel(t, l, text, true)
		checkGetLabel(t, text, l, true)
	} else {
		checkPutLabel(t, l, "", false)
		checkGetLabel(t, text, node.Label{}, false)
	}
}

func TestLabelBytes(t *testing.T) {
	l := node.Label{Kind: 'S', Gen: 1, Number: 0x0203, Total: api.MaxNumber}
	text := "S\x00\x00\x00\x00\x00\x00\x00\x01\x00\x00\x00\x00\x00\x00\x02\x03\x00\x00\x01\x00\x00\x00\x00\x00"
	checkPutLabel(t, l, sealed(text), true)
	checkGetLabel(t, sealed(text), l, true)
}

func TestLabelKinds(t *testing.T) {
	for kind := range 256 {
		checkLabel(t, node.Label{Kind: byte(kind), Gen: 1, Number: 2, Total: 3})
	}
	checkLabel(t, node.Label{})
}

func TestLabelNumbers(t *testing.T) {
	for _, gen := range edges {
		for _, number := range edges {
			for _, total := range edges {
				checkLabel(t, node.Label{Kind: 'M', Gen: gen, Number: number, Total: total})
			}
		}
	}
	checkGetLabel(t, rawLabel('M', 1, 2, math.MaxUint64), node.Label{}, false)
}

func TestGetLabelAtTheBeginning(t *testing.T) {
	l := node.Label{Kind: 'J', Gen: 5, Number: 6}
	text, _ := node.PutLabel(l)
	for _, more := range []string{"", "\x00", "J", text, strings.Repeat("\x00", 500)} {
		checkGetLabel(t, text+more, l, true)
	}
	for n := range len(text) {
		checkGetLabel(t, text[:n], node.Label{}, false)
	}
	checkGetLabel(t, "\x00"+text, node.Label{}, false)
	checkGetLabel(t, text[:1]+"\x00"+text[1:], node.Label{}, false)
}

func TestGetLabelOfAWrongSum(t *testing.T) {
	text, _ := node.PutLabel(node.Label{Kind: 'I', Gen: 5, Number: 6, Total: 7})
	for bit := range 8 * len(text) {
		b := []byte(text)
		b[bit/8] ^= 1 << (bit % 8)
		checkGetLabel(t, string(b), node.Label{}, false)
		checkGetLabel(t, string(b)+text, node.Label{}, false)
	}
}

func TestGetLabelOfAnyBytes(t *testing.T) {
	random := rand.New(rand.NewSource(6))
	for range 5000 {
		checkLabel(t, node.Label{Kind: byte('@' + random.Intn(28)), Gen: random.Intn(api.MaxNumber), Number: random.Intn(5) - 1, Total: random.Intn(300)})
		if l, ok := node.GetLabel(anyText(random, random.Intn(60))); ok {
			t.Errorf("a label from nothing: %v", l)
		}
	}
}
