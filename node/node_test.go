package node_test

import (
	"encoding/binary"
	"hash/crc32"
	"math"
	"math/rand"
	"strings"
	"testing"
	"unsafe"

	"chert/api"
	"chert/node"
)

// sealed: a text and the sum that belongs behind it.
func sealed(s string) string {
	return string(binary.LittleEndian.AppendUint32([]byte(s), crc32.ChecksumIEEE([]byte(s))))
}

// raw: an encoding with any flags and any lengths, valid or not, and the right sum.
func raw(flags byte, seq uint64, key, value string) string {
	b := binary.BigEndian.AppendUint64([]byte{'N', flags}, seq)
	b = binary.BigEndian.AppendUint16(append(b, byte(len(key))), uint16(len(value)))
	return sealed(string(b) + key + value)
}

func isValid(n node.Node) bool {
	return n.Seq >= 0 && n.Seq <= 1<<40 && len(n.Key) >= 1 && len(n.Key) <= 64 && len(n.Value) <= 200 && !(n.Gone && len(n.Value) > 0)
}

func slowEncode(n node.Node) (string, bool) {
	if !isValid(n) {
		return "", false
	}
	flags := byte(0)
	if n.Gone {
		flags++
	}
	if n.Last {
		flags += 2
	}
	return raw(flags, uint64(n.Seq), n.Key, n.Value), true
}

// slowDecode goes by the chapter's words, in their order.
func slowDecode(s string, at int) (node.Node, int, api.Errno) {
	none := node.Node{}
	if at < 0 || at > len(s) {
		return none, 0, api.ErrArg
	}
	if at == len(s) || s[at] == 0 {
		return none, 0, api.ErrNone
	}
	if s[at] != 'N' {
		return none, 0, api.ErrForm
	}
	if len(s) < at+13 {
		return none, 0, api.ErrShort
	}
	keyEnd := at + 13 + int(s[at+10])
	valueEnd := keyEnd + int(s[at+11])*256 + int(s[at+12])
	if len(s) < valueEnd+4 {
		return none, 0, api.ErrShort
	}
	if binary.LittleEndian.Uint32([]byte(s[valueEnd:])) != crc32.ChecksumIEEE([]byte(s[at:valueEnd])) {
		return none, 0, api.ErrSum
	}
	seq := binary.BigEndian.Uint64([]byte(s[at+2:]))
	n := node.Node{Seq: int(seq), Gone: s[at+1]%2 == 1, Last: s[at+1] >= 2, Key: s[at+13 : keyEnd], Value: s[keyEnd:valueEnd]}
	if s[at+1] > 3 || seq > 1<<40 || !isValid(n) {
		return none, 0, api.ErrForm
	}
	return n, valueEnd + 4, api.OK
}

func checkEncode(t *testing.T, n node.Node, want string, wantOK bool) {
	t.Helper()
	if got, ok := node.Encode(n); got != want || ok != wantOK {
		t.Errorf("Encode(%.80v) is %x, %v, not %x, %v", n, got, ok, want, wantOK)
	}
}

func checkDecode(t *testing.T, s string, at int, want node.Node, wantEnd int, wantErr api.Errno) {
	t.Helper()
	if got, end, err := node.Decode(s, at); got != want || end != wantEnd || err != wantErr {
		t.Errorf("Decode(%.60x, %d) is %.80v, %d, %d, not %.80v, %d, %d", s, at, got, end, err, want, wantEnd, wantErr)
	}
}

func checkSlowDecode(t *testing.T, s string, at int) {
	t.Helper()
	want, end, err := slowDecode(s, at)
	checkDecode(t, s, at, want, end, err)
}

func anyText(random *rand.Rand, n int) string {
	b := make([]byte, n)
	random.Read(b)
	return string(b)
}

// someNodes: valid ones, with each edge that there is.
func someNodes() []node.Node {
	var list []node.Node
	for _, seq := range []int{0, 1, 255, 256, 1<<32 - 1, 1 << 32, api.MaxNumber - 1, api.MaxNumber} {
		for _, key := range []string{"a", "\x00", "N", "\xff\x00", strings.Repeat("k", 63), strings.Repeat("\x00", 64)} {
			for _, last := range []bool{false, true} {
				list = append(list, node.Node{Seq: seq, Gone: true, Last: last, Key: key})
				for _, value := range []string{"", "b", "\x00", "N\x00", strings.Repeat("v", 199), strings.Repeat("\xff", 200)} {
					list = append(list, node.Node{Seq: seq, Last: last, Key: key, Value: value})
				}
			}
		}
	}
	return list
}

func TestExample(t *testing.T) {
	n := node.Node{Seq: 1, Last: true, Key: "a", Value: "b"}
	text := "N\x02\x00\x00\x00\x00\x00\x00\x00\x01\x01\x00\x01ab"
	checkEncode(t, n, sealed(text), true)
	checkDecode(t, sealed(text), 0, n, len(text)+4, api.OK)
}

func TestEncode(t *testing.T) {
	key, value := strings.Repeat("k", 64), strings.Repeat("v", 200)
	for _, c := range []struct {
		n    node.Node
		text string
	}{
		{node.Node{Key: "a"}, "N\x00\x00\x00\x00\x00\x00\x00\x00\x00\x01\x00\x00a"},
		{node.Node{Seq: 2, Gone: true, Key: "a"}, "N\x01\x00\x00\x00\x00\x00\x00\x00\x02\x01\x00\x00a"},
		{node.Node{Seq: 3, Gone: true, Last: true, Key: "ab"}, "N\x03\x00\x00\x00\x00\x00\x00\x00\x03\x02\x00\x00ab"},
		{node.Node{Seq: 0x0102030405, Key: "\x00", Value: "\x00\x00"}, "N\x00\x00\x00\x00\x01\x02\x03\x04\x05\x01\x00\x02\x00\x00\x00"},
		{node.Node{Seq: api.MaxNumber, Key: key, Value: value}, "N\x00\x00\x00\x01\x00\x00\x00\x00\x00\x40\x00\xc8" + key + value},
	} {
		checkEncode(t, c.n, sealed(c.text), true)
	}
}

func TestEncodeOfNoValidNode(t *testing.T) {
	for _, n := range []node.Node{
		{},
		{Seq: 1, Value: "b"},
		{Seq: 1, Gone: true},
		{Seq: -1, Key: "a"},
		{Seq: api.MaxNumber + 1, Key: "a"},
		{Seq: math.MinInt, Key: "a"},
		{Seq: math.MaxInt, Key: "a"},
		{Seq: 1, Key: strings.Repeat("k", 65)},
		{Seq: 1, Key: strings.Repeat("k", 255)},
		{Seq: 1, Key: strings.Repeat("k", 257)},
		{Seq: 1, Key: "a", Value: strings.Repeat("v", 201)},
		{Seq: 1, Key: "a", Value: strings.Repeat("v", 1<<16+1)},
		{Seq: 1, Gone: true, Key: "a", Value: "b"},
		{Seq: 1, Gone: true, Last: true, Key: "a", Value: "\x00"},
	} {
		checkEncode(t, n, "", false)
	}
}

func TestEachValidNodeIsDecoded(t *testing.T) {
	for _, n := range someNodes() {
		text, ok := slowEncode(n)
		if !ok {
			t.Fatalf("%v is no valid node", n)
		}
		checkEncode(t, n, text, true)
		checkDecode(t, text, 0, n, len(text), api.OK)
		checkDecode(t, "xyz"+text+"\x00", 3, n, 3+len(text), api.OK)
		checkDecode(t, text+text, len(text), n, 2*len(text), api.OK)
	}
}

func TestDecodeOfNothing(t *testing.T) {
	text := raw(2, 1, "a", "b")
	for _, c := range []struct {
		s   string
		at  int
		err api.Errno
	}{
		{"", 0, api.ErrNone},
		{"", 1, api.ErrArg},
		{"", -1, api.ErrArg},
		{text, -1, api.ErrArg},
		{text, math.MinInt, api.ErrArg},
		{text, math.MaxInt, api.ErrArg},
		{text, len(text) + 1, api.ErrArg},
		{text, len(text), api.ErrNone},
		{text + "\x00", len(text), api.ErrNone},
		{text + "\x00\x00N", len(text), api.ErrNone},
		{"\x00", 0, api.ErrNone},
		{text, 1, api.ErrForm},
		{text, 2, api.ErrNone},
		{"M" + text[1:], 0, api.ErrForm},
		{"n", 0, api.ErrForm},
		{"\xff", 0, api.ErrForm},
		{"\x01\x00", 0, api.ErrForm},
	} {
		checkDecode(t, c.s, c.at, node.Node{}, 0, c.err)
	}
}

func TestDecodeOfWhatIsNotComplete(t *testing.T) {
	for _, text := range []string{raw(2, 1, "a", "b"), raw(1, 1, "a", ""), raw(0, api.MaxNumber, strings.Repeat("k", 64), strings.Repeat("v", 200)), raw(9, 1, "", "")} {
		for n := 1; n < len(text); n++ {
			checkDecode(t, text[:n], 0, node.Node{}, 0, api.ErrShort)
			checkDecode(t, "\x00"+text[:n], 1, node.Node{}, 0, api.ErrShort)
		}
	}
	head := "N\x00\x00\x00\x00\x00\x00\x00\x00\x01"
	for _, s := range []string{
		head + "\x01\xff\xff" + strings.Repeat("\x00", 1+65535+3),
		head + "\xff\x00\x00" + strings.Repeat("\x00", 255+3),
		head + "\x00\x00\x00" + "\x00\x00\x00",
		head + "\x01\x01\x00" + strings.Repeat("\x00", 1+256+3),
	} {
		checkDecode(t, s, 0, node.Node{}, 0, api.ErrShort)
		checkDecode(t, s+"\x01", 0, node.Node{}, 0, api.ErrSum)
	}
}

func TestDecodeOfAWrongSum(t *testing.T) {
	text := raw(2, 1, "a", "b")
	for bit := range 8 * len(text) {
		b := []byte(text)
		b[bit/8] ^= 1 << (bit % 8)
		want := api.ErrSum
		switch at := bit / 8; {
		case at == 0:
			want = api.ErrForm
		case at >= 10 && at <= 12 && b[at] > text[at]: // a length that became greater
			want = api.ErrShort
		}
		checkDecode(t, string(b), 0, node.Node{}, 0, want)
	}
	body := text[:len(text)-4]
	for _, s := range []string{
		body + string([]byte{text[len(text)-1], text[len(text)-2], text[len(text)-3], text[len(text)-4]}),
		body + "\x00\x00\x00\x00",
		"N\x04" + body[2:] + "\x00\x00\x00\x00",
		sealed("N" + body)[1:], // the sum of more than the node
	} {
		checkDecode(t, s, 0, node.Node{}, 0, api.ErrSum)
	}
}

func TestDecodeOfNoValidNode(t *testing.T) {
	for _, s := range []string{
		raw(4, 1, "a", "b"),
		raw(5, 1, "a", ""),
		raw(6, 1, "a", "b"),
		raw(0x80, 1, "a", "b"),
		raw(0xff, 1, "a", ""),
		raw(1, 1, "a", "b"),
		raw(3, 1, "a", "\x00"),
		raw(0, 1, "", "b"),
		raw(0, 1, "", ""),
		raw(0, 1, strings.Repeat("k", 65), "b"),
		raw(0, 1, strings.Repeat("k", 255), "b"),
		raw(0, 1, "a", strings.Repeat("v", 201)),
		raw(0, 1, "a", strings.Repeat("v", 256)),
		raw(0, 1, "a", strings.Repeat("v", 65535)),
		raw(0, api.MaxNumber+1, "a", "b"),
		raw(0, math.MaxInt, "a", "b"),
		raw(0, 1<<63, "a", "b"),
		raw(0, 1<<63+1, "a", "b"),
		raw(0, math.MaxUint64, "a", "b"),
	} {
		checkDecode(t, s, 0, node.Node{}, 0, api.ErrForm)
		checkDecode(t, "ab"+s+"N", 2, node.Node{}, 0, api.ErrForm)
		checkDecode(t, s[:len(s)-1], 0, node.Node{}, 0, api.ErrShort)
		checkDecode(t, s[:len(s)-1]+string([]byte{s[len(s)-1] ^ 1}), 0, node.Node{}, 0, api.ErrSum)
	}
}

func TestDecodeOneAfterTheOther(t *testing.T) {
	list := someNodes()
	var text strings.Builder
	for _, n := range list {
		s, _ := node.Encode(n)
		text.WriteString(s)
	}
	payload := text.String() + "\x00\x00\x00"
	at := 0
	for _, want := range list {
		got, end, err := node.Decode(payload, at)
		if got != want || err != api.OK {
			t.Fatalf("Decode at %d is %v, %d, not %v", at, got, err, want)
		}
		at = end
	}
	checkDecode(t, payload, at, node.Node{}, 0, api.ErrNone)
}

func TestAnyNodes(t *testing.T) {
	random := rand.New(rand.NewSource(1))
	for range 20000 {
		n := node.Node{Seq: random.Intn(api.MaxNumber + 2), Gone: random.Intn(2) == 0, Last: random.Intn(2) == 0, Key: anyText(random, random.Intn(67))}
		if random.Intn(2) == 0 {
			n.Value = anyText(random, random.Intn(205))
		}
		want, ok := slowEncode(n)
		checkEncode(t, n, want, ok)
	}
}

func TestAnyTexts(t *testing.T) {
	random := rand.New(rand.NewSource(2))
	for range 20000 {
		s := raw(byte(random.Intn(6)), uint64(random.Intn(5)-1), anyText(random, random.Intn(67)), anyText(random, random.Intn(2)*random.Intn(205)))
		switch b := []byte(s); random.Intn(4) {
		case 0:
			b[random.Intn(len(b))] ^= 1 << random.Intn(8)
			s = string(b)
		case 1:
			s = s[:random.Intn(len(s))]
		case 2:
			s += s
		}
		before := anyText(random, random.Intn(4))
		checkSlowDecode(t, before+s, len(before))
		checkSlowDecode(t, before+s, random.Intn(len(before+s)+3)-1)
		checkSlowDecode(t, "N"+anyText(random, random.Intn(40)), 0)
	}
}

func TestResultsAreNew(t *testing.T) {
	text, _ := node.Encode(node.Node{Seq: 1, Key: strings.Repeat("k", 40), Value: strings.Repeat("v", 40)})
	n, _, _ := node.Decode(text, 0)
	if unsafe.StringData(n.Key) == unsafe.StringData(text[13:]) || unsafe.StringData(n.Value) == unsafe.StringData(text[53:]) {
		t.Error("Decode's result shares memory with its argument")
	}
}
