package crc_test

import (
	"math/rand"
	"strings"
	"testing"
	"unsafe"

	"chert/crc"
)

// slowExtend goes by the chapter's words: bit after bit.
func slowExtend(c uint32, s string) uint32 {
	register := ^c
	for i := 0; i < len(s); i++ {
		register ^= uint32(s[i])
		for range 8 {
			out := register & 1
			register >>= 1
			if out == 1 {
				register ^= 0xEDB88320
			}
		}
	}
	return ^register
}

func anyText(random *rand.Rand, n int) string {
	b := make([]byte, n)
	random.Read(b)
	return string(b)
}

func TestSum(t *testing.T) {
	for _, c := range []struct {
		text string
		want uint32
	}{
		{"", 0},
		{"a", 0xE8B7BE43},
		{"123456789", 0xCBF43926},
		{"\x00", 0xD202EF8D},
		{"\x00\x00\x00\x00", 0x2144DF1C},
		{"\xff\xff\xff\xff", 0xFFFFFFFF},
		{"The quick brown fox jumps over the lazy dog", 0x414FA339},
	} {
		if got := crc.Sum(c.text); got != c.want {
			t.Errorf("Sum(%q) is %X, not %X", c.text, got, c.want)
		}
	}
}

func TestSumOfAny(t *testing.T) {
	random := rand.New(rand.NewSource(1))
	for b := range 256 {
		if text := string([]byte{byte(b)}); crc.Sum(text) != slowExtend(0, text) {
			t.Errorf("Sum(%q) is %X, not %X", text, crc.Sum(text), slowExtend(0, text))
		}
	}
	for n := range 300 {
		text := anyText(random, n)
		if got, want := crc.Sum(text), slowExtend(0, text); got != want {
			t.Fatalf("Sum(%q) is %X, not %X", text, got, want)
		}
	}
	if text := anyText(random, 1<<20); crc.Sum(text) != slowExtend(0, text) {
		t.Error("Sum of a long text")
	}
}

func TestExtend(t *testing.T) {
	random := rand.New(rand.NewSource(2))
	for range 500 {
		c, text := random.Uint32(), anyText(random, random.Intn(40))
		if got, want := crc.Extend(c, text), slowExtend(c, text); got != want {
			t.Fatalf("Extend(%X, %q) is %X, not %X", c, text, got, want)
		}
		head := anyText(random, random.Intn(40))
		if got, want := crc.Extend(crc.Sum(head), text), crc.Sum(head+text); got != want {
			t.Fatalf("Extend(Sum(%q), %q) is %X, not %X", head, text, got, want)
		}
	}
	for _, c := range []uint32{0, 1, 0x80000000, 0xFFFFFFFF} {
		if got := crc.Extend(c, ""); got != c {
			t.Errorf("Extend(%X, \"\") is %X", c, got)
		}
		if got, want := crc.Extend(c, "\xff"), slowExtend(c, "\xff"); got != want {
			t.Errorf("Extend(%X, FF) is %X, not %X", c, got, want)
		}
	}
}

func TestSeal(t *testing.T) {
	for text, want := range map[string]string{
		"":          "\x00\x00\x00\x00",
		"a":         "a\x43\xbe\xb7\xe8",
		"123456789": "123456789\x26\x39\xf4\xcb",
	} {
		if got := crc.Seal(text); got != want {
			t.Errorf("Seal(%q) is %q, not %q", text, got, want)
		}
	}
}

func TestOpen(t *testing.T) {
	for _, c := range []struct {
		text, want string
		ok         bool
	}{
		{"a\x43\xbe\xb7\xe8", "a", true},
		{"\x00\x00\x00\x00", "", true},
		{"\xff\xff\xff\xff\xff\xff\xff\xff", "\xff\xff\xff\xff", true},
		{"a\xe8\xb7\xbe\x43", "", false},
		{"\x43\xbe\xb7\xe8a", "", false},
		{"\x00\x00\x00\x01", "", false},
		{"\x00\x00\x00\x00\x00", "", false},
		{"\x00\x00\x00", "", false},
		{"abc", "", false},
		{"a", "", false},
		{"", "", false},
	} {
		if got, ok := crc.Open(c.text); got != c.want || ok != c.ok {
			t.Errorf("Open(%q) is %q, %v, not %q, %v", c.text, got, ok, c.want, c.ok)
		}
	}
}

func TestOpenOfAny(t *testing.T) {
	random := rand.New(rand.NewSource(3))
	for n := range 100 {
		text := anyText(random, n)
		sealed := crc.Seal(text)
		if got, ok := crc.Open(sealed); got != text || !ok {
			t.Fatalf("Open(Seal(%q)) is %q, %v", text, got, ok)
		}
		for bit := range 8 * len(sealed) {
			b := []byte(sealed)
			b[bit/8] ^= 1 << (bit % 8)
			if got, ok := crc.Open(string(b)); got != "" || ok {
				t.Fatalf("Open of Seal(%q) without bit %d is %q, %v", text, bit, got, ok)
			}
		}
		if got, ok := crc.Open(sealed[:len(sealed)-1]); got != "" || ok {
			t.Fatalf("Open(%q) is %q, %v", sealed[:len(sealed)-1], got, ok)
		}
	}
}

// TestOpenIsNewMemory: a text that was opened keeps nothing of the sealed one.
func TestOpenIsNewMemory(t *testing.T) {
	sealed := crc.Seal(strings.Repeat("chert", 5))
	text, _ := crc.Open(sealed)
	if unsafe.StringData(text) == unsafe.StringData(sealed) {
		t.Error("Open's result is a part of its argument")
	}
}
