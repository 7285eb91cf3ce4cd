package key_test

import (
	"cmp"
	"math"
	"math/rand"
	"slices"
	"strings"
	"testing"
	"unsafe"

	"chert/api"
	"chert/key"
)

const mostPiece = 1<<32 - 1

// slowEncode goes by the chapter's words: the form first, then byte after byte.
func slowEncode(k key.Key) (string, bool) {
	if k.Number < 0 || k.Number > 1<<40 {
		return "", false
	}
	out := []byte{}
	for i := 56; i >= 0; i -= 8 {
		out = append(out, byte(uint64(k.Number)>>i))
	}
	out = append(out, byte(k.Kind))
	switch {
	case k.Kind == 1 && k.Name == "" && k.Piece == 0:
		return string(out), true
	case k.Kind == 2 && len(k.Name) >= 1 && len(k.Name) <= 32 && k.Piece == 0:
		return string(out) + k.Name, true
	case k.Kind == 3 && k.Name == "" && k.Piece >= 0 && k.Piece <= 1<<32-1:
		p := uint32(k.Piece)
		return string(append(out, byte(p>>24), byte(p>>16), byte(p>>8), byte(p))), true
	}
	return "", false
}

// slowDecode tries each key that can be meant.
func slowDecode(s string) (key.Key, bool) {
	if len(s) < 9 {
		return key.Key{}, false
	}
	number := uint64(0)
	for _, b := range []byte(s[:8]) {
		number = number*256 + uint64(b)
	}
	guesses := []key.Key{{Number: int(number), Kind: 1}, {Number: int(number), Kind: 2, Name: s[9:]}}
	if len(s) == 13 {
		piece := int(s[9])<<24 + int(s[10])<<16 + int(s[11])<<8 + int(s[12])
		guesses = append(guesses, key.Key{Number: int(number), Kind: 3, Piece: piece})
	}
	for _, k := range guesses {
		if text, ok := slowEncode(k); ok && text == s {
			return k, true
		}
	}
	return key.Key{}, false
}

func checkEncode(t *testing.T, k key.Key, want string, wantOK bool) {
	t.Helper()
	if got, ok := key.Encode(k); got != want || ok != wantOK {
		t.Errorf("Encode(%v) is %x, %v, not %x, %v", k, got, ok, want, wantOK)
	}
}

func checkDecode(t *testing.T, s string, want key.Key, wantOK bool) {
	t.Helper()
	if got, ok := key.Decode(s); got != want || ok != wantOK {
		t.Errorf("Decode(%.60x) is %v, %v, not %v, %v", s, got, ok, want, wantOK)
	}
}

// someKeys: valid ones, with each edge that there is, and names that are alike.
func someKeys() []key.Key {
	names := []string{
		"a", "b", "aa", "ab", "a\x00", "a\xff", "\x00", "\x00\x00", "\xff", "/", "..", "\x00\x00\x00\x02", "\xc3\xa9",
		strings.Repeat("x", api.MaxName), strings.Repeat("x", api.MaxName-1), strings.Repeat("\xff", api.MaxName),
	}
	var list []key.Key
	for _, number := range []int{0, 1, 2, 3, 255, 256, 257, 65535, 1 << 24, 1<<32 - 1, 1 << 32, api.MaxNumber - 1, api.MaxNumber} {
		list = append(list, key.Key{Number: number, Kind: key.Inode})
		for _, name := range names {
			list = append(list, key.Key{Number: number, Kind: key.Entry, Name: name})
		}
		for _, piece := range []int{0, 1, 2, 127, 128, 255, 256, 65535, 65536, 1 << 24, 1 << 31, mostPiece - 1, mostPiece} {
			list = append(list, key.Key{Number: number, Kind: key.Data, Piece: piece})
		}
	}
	return list
}

func anyText(random *rand.Rand, n int) string {
	b := make([]byte, n)
	for i := range b {
		b[i] = byte(random.Intn(256) * random.Intn(2))
	}
	return string(b)
}

func anyNumber(random *rand.Rand) int {
	list := []int{-1, 0, 1, 2, 255, 256, 1<<32 - 1, 1 << 32, api.MaxNumber, api.MaxNumber + 1, math.MinInt, math.MaxInt}
	if random.Intn(2) == 0 {
		return random.Intn(api.MaxNumber + 1)
	}
	return list[random.Intn(len(list))]
}

func TestKinds(t *testing.T) {
	if key.Inode != 1 || key.Entry != 2 || key.Data != 3 {
		t.Errorf("the kinds are %d, %d, %d", key.Inode, key.Entry, key.Data)
	}
}

func TestExample(t *testing.T) {
	checkEncode(t, key.Key{Number: 1, Kind: key.Data, Piece: 2}, "\x00\x00\x00\x00\x00\x00\x00\x01\x03\x00\x00\x00\x02", true)
}

func TestEncode(t *testing.T) {
	for _, c := range []struct {
		k    key.Key
		want string
	}{
		{key.Key{Number: 0, Kind: 1}, "\x00\x00\x00\x00\x00\x00\x00\x00\x01"},
		{key.Key{Number: 0x0102030405, Kind: 1}, "\x00\x00\x00\x01\x02\x03\x04\x05\x01"},
		{key.Key{Number: api.MaxNumber, Kind: 1}, "\x00\x00\x01\x00\x00\x00\x00\x00\x01"},
		{key.Key{Number: 7, Kind: 2, Name: "f"}, "\x00\x00\x00\x00\x00\x00\x00\x07\x02f"},
		{key.Key{Number: 7, Kind: 2, Name: "\x00/\xff"}, "\x00\x00\x00\x00\x00\x00\x00\x07\x02\x00/\xff"},
		{key.Key{Number: 256, Kind: 2, Name: strings.Repeat("n", 32)}, "\x00\x00\x00\x00\x00\x00\x01\x00\x02" + strings.Repeat("n", 32)},
		{key.Key{Number: 7, Kind: 3}, "\x00\x00\x00\x00\x00\x00\x00\x07\x03\x00\x00\x00\x00"},
		{key.Key{Number: 7, Kind: 3, Piece: 0x01020304}, "\x00\x00\x00\x00\x00\x00\x00\x07\x03\x01\x02\x03\x04"},
		{key.Key{Number: 7, Kind: 3, Piece: mostPiece}, "\x00\x00\x00\x00\x00\x00\x00\x07\x03\xff\xff\xff\xff"},
	} {
		checkEncode(t, c.k, c.want, true)
		checkDecode(t, c.want, c.k, true)
	}
}

func TestEncodeOfNoValidKey(t *testing.T) {
	for _, k := range []key.Key{
		{},
		{Number: 1},
		{Number: 1, Kind: 4},
		{Number: 1, Kind: -1},
		{Number: 1, Kind: 257},
		{Number: 1, Kind: 258, Name: "a"},
		{Number: 1, Kind: -253},
		{Number: 1, Kind: math.MinInt},
		{Number: -1, Kind: 1},
		{Number: api.MaxNumber + 1, Kind: 1},
		{Number: math.MinInt, Kind: 1},
		{Number: math.MaxInt, Kind: 3},
		{Number: -1, Kind: 2, Name: "a"},
		{Number: api.MaxNumber + 1, Kind: 3},
		{Number: 1, Kind: 1, Name: "a"},
		{Number: 1, Kind: 1, Piece: 1},
		{Number: 1, Kind: 1, Piece: -1},
		{Number: 1, Kind: 2},
		{Number: 1, Kind: 2, Name: strings.Repeat("n", 33)},
		{Number: 1, Kind: 2, Name: strings.Repeat("n", 300)},
		{Number: 1, Kind: 2, Name: "a", Piece: 1},
		{Number: 1, Kind: 2, Name: "a", Piece: -1},
		{Number: 1, Kind: 3, Name: "a"},
		{Number: 1, Kind: 3, Name: "a", Piece: 1},
		{Number: 1, Kind: 3, Piece: -1},
		{Number: 1, Kind: 3, Piece: mostPiece + 1},
		{Number: 1, Kind: 3, Piece: math.MinInt},
		{Number: 1, Kind: 3, Piece: math.MaxInt},
	} {
		checkEncode(t, k, "", false)
	}
}

func TestDecodeOfNoKey(t *testing.T) {
	one := "\x00\x00\x00\x00\x00\x00\x00\x01"
	for _, s := range []string{
		"",
		"\x01",
		one,
		one + "\x00",
		one + "\x04",
		one + "\x04abcd",
		one + "\xff",
		one + "\x01\x00",
		one + "\x01a",
		one + "\x01\x00\x00\x00\x00",
		one + "\x02",
		one + "\x02" + strings.Repeat("n", 33),
		one + "\x02" + strings.Repeat("n", 1<<20),
		one + "\x03",
		one + "\x03\x00",
		one + "\x03\x00\x00\x00",
		one + "\x03\x00\x00\x00\x00\x00",
		one + "\x03\x00\x00\x00\x00\x00\x00\x00\x02",
		one + "\x03\x00\x00\x00\x00\x00\x00\x00\x00\x00\x00\x00\x02",
		"\x00\x00\x01\x00\x00\x00\x00\x01\x01",
		"\x00\x00\x01\x00\x00\x00\x00\x01\x02a",
		"\x00\x00\x01\x00\x00\x00\x00\x01\x03\x00\x00\x00\x00",
		"\x01\x00\x00\x00\x00\x00\x00\x01\x01",
		"\x80\x00\x00\x00\x00\x00\x00\x01\x01",
		"\xff\xff\xff\xff\xff\xff\xff\xff\x01",
		"\x00" + one + "\x01",
	} {
		checkDecode(t, s, key.Key{}, false)
	}
}

func TestEachValidKeyIsDecoded(t *testing.T) {
	for _, k := range someKeys() {
		text, ok := slowEncode(k)
		if !ok {
			t.Fatalf("%v is no valid key", k)
		}
		checkEncode(t, k, text, true)
		checkDecode(t, text, k, true)
		for n := range len(text) {
			want, ok := slowDecode(text[:n])
			checkDecode(t, text[:n], want, ok)
		}
		want, ok := slowDecode(text + "\x00")
		checkDecode(t, text+"\x00", want, ok)
	}
}

func TestAnyKeys(t *testing.T) {
	random := rand.New(rand.NewSource(1))
	for range 50000 {
		k := key.Key{Number: anyNumber(random), Kind: random.Intn(6) - 1}
		if random.Intn(2) == 0 {
			k.Name = anyText(random, random.Intn(36))
		}
		if random.Intn(2) == 0 {
			k.Piece = anyNumber(random)
		}
		want, ok := slowEncode(k)
		checkEncode(t, k, want, ok)
	}
}

func TestAnyTexts(t *testing.T) {
	random := rand.New(rand.NewSource(2))
	for range 50000 {
		s := anyText(random, random.Intn(50))
		if random.Intn(2) == 0 {
			s = strings.Repeat("\x00", 7) + string([]byte{byte(random.Intn(9)), byte(random.Intn(5))}) + anyText(random, random.Intn(36))
		}
		want, ok := slowDecode(s)
		checkDecode(t, s, want, ok)
	}
}

// compareKeys: by the Numbers, then the Kinds, then the Names or Pieces.
func compareKeys(a, b key.Key) int {
	return cmp.Or(cmp.Compare(a.Number, b.Number), cmp.Compare(a.Kind, b.Kind), strings.Compare(a.Name, b.Name), cmp.Compare(a.Piece, b.Piece))
}

func TestOrder(t *testing.T) {
	list := someKeys()
	for _, a := range list {
		for _, b := range list {
			x, _ := key.Encode(a)
			y, _ := key.Encode(b)
			if got, want := strings.Compare(x, y), compareKeys(a, b); got != want {
				t.Fatalf("the encodings of %v and %v compare as %d, not %d", a, b, got, want)
			}
		}
	}
	random := rand.New(rand.NewSource(3))
	random.Shuffle(len(list), func(i, k int) { list[i], list[k] = list[k], list[i] })
	var texts []string
	for _, k := range list {
		text, _ := key.Encode(k)
		texts = append(texts, text)
	}
	slices.Sort(texts)
	slices.SortFunc(list, compareKeys)
	for i, k := range list {
		checkDecode(t, texts[i], k, true)
	}
}

func TestRange(t *testing.T) {
	for _, c := range []struct {
		number, kind int
		a, b         string
	}{
		{0, 1, "\x00\x00\x00\x00\x00\x00\x00\x00\x01", "\x00\x00\x00\x00\x00\x00\x00\x00\x02"},
		{1, 2, "\x00\x00\x00\x00\x00\x00\x00\x01\x02", "\x00\x00\x00\x00\x00\x00\x00\x01\x03"},
		{0x010203, 3, "\x00\x00\x00\x00\x00\x01\x02\x03\x03", "\x00\x00\x00\x00\x00\x01\x02\x03\x04"},
		{api.MaxNumber, 3, "\x00\x00\x01\x00\x00\x00\x00\x00\x03", "\x00\x00\x01\x00\x00\x00\x00\x00\x04"},
	} {
		if a, b, ok := key.Range(c.number, c.kind); a != c.a || b != c.b || !ok {
			t.Errorf("Range(%d, %d) is %x, %x, %v, not %x, %x", c.number, c.kind, a, b, ok, c.a, c.b)
		}
	}
}

func TestRangeOfNoValid(t *testing.T) {
	for _, c := range [][2]int{
		{-1, 1}, {api.MaxNumber + 1, 1}, {math.MinInt, 2}, {math.MaxInt, 3}, {-1, 0},
		{1, 0}, {1, 4}, {1, -1}, {1, 257}, {1, -254}, {1, math.MinInt}, {1, math.MaxInt},
	} {
		if a, b, ok := key.Range(c[0], c[1]); a != "" || b != "" || ok {
			t.Errorf("Range(%d, %d) is %x, %x, %v", c[0], c[1], a, b, ok)
		}
	}
}

func TestRangeHoldsItsKeysAlone(t *testing.T) {
	list := someKeys()
	for _, r := range list {
		a, b, ok := key.Range(r.Number, r.Kind)
		if !ok {
			t.Fatalf("no Range(%d, %d)", r.Number, r.Kind)
		}
		for _, k := range list {
			text, _ := key.Encode(k)
			in := a <= text && text < b
			if want := k.Number == r.Number && k.Kind == r.Kind; in != want {
				t.Fatalf("%v in Range(%d, %d): %v", k, r.Number, r.Kind, in)
			}
		}
	}
}

func TestResultsAreNew(t *testing.T) {
	name := strings.Repeat("n", 32)
	text, _ := key.Encode(key.Key{Number: 1, Kind: key.Entry, Name: name})
	if unsafe.StringData(text[9:]) == unsafe.StringData(name) {
		t.Error("Encode's result shares memory")
	}
	k, _ := key.Decode(text)
	if unsafe.StringData(k.Name) == unsafe.StringData(text[9:]) {
		t.Error("Decode's result shares memory")
	}
}
