package pack_test

import (
	"math/rand"
	"slices"
	"strings"
	"testing"
	"unsafe"

	"chert/api"
	"chert/node"
	"chert/pack"
)

func text(t *testing.T, n node.Node) string {
	t.Helper()
	s, ok := node.Encode(n)
	if !ok {
		t.Fatalf("%v is no valid node", n)
	}
	return s
}

func checkUnpack(t *testing.T, payload string, nodes []node.Node, places []int, err api.Errno) {
	t.Helper()
	gotNodes, gotPlaces, got := pack.Unpack(payload)
	if !slices.Equal(gotNodes, nodes) || !slices.Equal(gotPlaces, places) || got != err {
		t.Fatalf("Unpack(%.60x) is %.80v, %v, %d, not %.80v, %v, %d", payload, gotNodes, gotPlaces, got, nodes, places, err)
	}
}

// someNodes: of different lengths; the value of one looks like a node.
func someNodes(t *testing.T) []node.Node {
	inner := node.Node{Seq: 7, Key: "inner"}
	return []node.Node{
		{Seq: 1, Key: "a", Value: "b"},
		{Seq: 2, Gone: true, Key: "bcd"},
		{Seq: 3, Last: true, Key: "e", Value: text(t, inner) + "\x00\x00"},
		{Seq: api.MaxNumber, Gone: true, Last: true, Key: strings.Repeat("\x00", 64)},
		{Key: strings.Repeat("k", 64), Value: strings.Repeat("\x00", 200)},
	}
}

func TestUnpack(t *testing.T) {
	var payload string
	var places []int
	nodes := someNodes(t)
	for i, n := range nodes {
		places = append(places, len(payload))
		payload += text(t, n)
		checkUnpack(t, payload, nodes[:i+1], places, api.OK)
		checkUnpack(t, payload+"\x00", nodes[:i+1], places, api.OK)
		checkUnpack(t, payload+strings.Repeat("\x00", 300), nodes[:i+1], places, api.OK)
	}
}

func TestUnpackOfNoNodes(t *testing.T) {
	for _, payload := range []string{"", "\x00", "\x00\x00", "\x00N", "\x00" + text(t, node.Node{Key: "a"}), strings.Repeat("\x00", 1000)} {
		checkUnpack(t, payload, nil, nil, api.OK)
	}
}

// TestUnpackEndsAtPadding: what follows it is not looked at.
func TestUnpackEndsAtPadding(t *testing.T) {
	n := node.Node{Key: "a"}
	s := text(t, n)
	for _, behind := range []string{"x", "N", s, "\x01"} {
		checkUnpack(t, s+"\x00"+behind, []node.Node{n}, []int{0}, api.OK)
	}
}

func TestUnpackOfWhatIsWrong(t *testing.T) {
	s := text(t, node.Node{Seq: 1, Key: "a", Value: "b"})
	turned := s[:len(s)-1] + string([]byte{s[len(s)-1] ^ 1})
	gone := "N\x01" + s[2:] // a Gone one with a value, and without the right sum
	for _, before := range []string{"", s, s + s} {
		checkUnpack(t, before+"x", nil, nil, api.ErrForm)
		checkUnpack(t, before+"\x01", nil, nil, api.ErrForm)
		checkUnpack(t, before+"x"+s, nil, nil, api.ErrForm)
		checkUnpack(t, before+"N", nil, nil, api.ErrShort)
		checkUnpack(t, before+s[:len(s)-1], nil, nil, api.ErrShort)
		checkUnpack(t, before+turned, nil, nil, api.ErrSum)
		checkUnpack(t, before+turned+s, nil, nil, api.ErrSum)
		checkUnpack(t, before+gone, nil, nil, api.ErrSum)
		checkUnpack(t, before+strings.Repeat("N", 1<<17), nil, nil, api.ErrSum)
	}
}

// TestUnpackGoesByDecode reads random payloads, most of them of nodes, as node.Decode does.
func TestUnpackGoesByDecode(t *testing.T) {
	random := rand.New(rand.NewSource(2))
	all := someNodes(t)
	for range 5000 {
		var payload string
		for range random.Intn(6) {
			payload += text(t, all[random.Intn(len(all))])
		}
		payload += strings.Repeat("\x00", random.Intn(3))
		if b := []byte(payload); len(b) > 0 && random.Intn(3) == 0 {
			b[random.Intn(len(b))] ^= 1 << random.Intn(8)
			payload = string(b[:1+random.Intn(len(b))])
		}
		var nodes []node.Node
		var places []int
		at, err := 0, api.OK
		for {
			var n node.Node
			var end int
			if n, end, err = node.Decode(payload, at); err != api.OK {
				break
			}
			nodes, places, at = append(nodes, n), append(places, at), end
		}
		if err == api.ErrNone {
			checkUnpack(t, payload, nodes, places, api.OK)
		} else {
			checkUnpack(t, payload, nil, nil, err)
		}
	}
}

// TestPackedNodesAreUnpacked: no record crosses a page's end.
func TestPackedNodesAreUnpacked(t *testing.T) {
	random := rand.New(rand.NewSource(3))
	all := someNodes(t)
	p := pack.New(300)
	var put, got []node.Node
	read := func(page string) {
		nodes, _, err := pack.Unpack(page + strings.Repeat("\x00", 300-len(page)))
		if err != api.OK || len(nodes) == 0 {
			t.Fatalf("Unpack of a page is %d", err)
		}
		got = append(got, nodes...)
	}
	for range 500 {
		n := all[random.Intn(len(all))]
		put = append(put, n)
		if page, full, _ := p.Add(text(t, n)); full {
			read(page)
		}
	}
	page, _ := p.Flush()
	read(page)
	if !slices.Equal(put, got) {
		t.Error("the pages hold other nodes than were added")
	}
}

func TestUnpackedNodesAreNew(t *testing.T) {
	payload := text(t, node.Node{Key: strings.Repeat("k", 40), Value: strings.Repeat("v", 40)})
	nodes, _, _ := pack.Unpack(payload)
	if unsafe.StringData(nodes[0].Key) == unsafe.StringData(payload[13:]) {
		t.Error("a node shares memory with the payload")
	}
}
