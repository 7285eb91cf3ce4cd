package lz_test

import (
	"math"
	"math/rand"
	"slices"
	"strings"
	"testing"
	"unsafe"

	"chert/api"
	"chert/lz"
)

func checkUnpack(t *testing.T, s string, most int, want string, wantErr api.Errno) {
	t.Helper()
	if got, err := lz.Unpack(s, most); got != want || err != wantErr {
		t.Errorf("Unpack(%.40x, %d) is %.40q, %d, not %.40q, %d", s, most, got, err, want, wantErr)
	}
}

// slowUnpack: by the chapter's words.
func slowUnpack(s string, most int) (string, api.Errno) {
	most = max(0, min(most, api.MaxText))
	if len(s) == 0 || s[0] > 1 {
		return "", api.ErrForm
	}
	if s[0] == 0 {
		if len(s) > most+1 {
			return "", api.ErrLong
		}
		return s[1:], api.OK
	}
	out, at := []byte{}, 1
	for at < len(s) {
		n := int(s[at])
		if n <= 127 {
			if at+1+n+1 > len(s) {
				return "", api.ErrForm
			}
			out = append(out, s[at+1:at+n+2]...)
			at += n + 2
		} else {
			if at+3 > len(s) {
				return "", api.ErrForm
			}
			d := int(s[at+1]) + 256*int(s[at+2])
			if d+1 > len(out) {
				return "", api.ErrForm
			}
			for range n - 125 {
				out = append(out, out[len(out)-d-1])
			}
			at += 3
		}
		if len(out) > most {
			return "", api.ErrLong
		}
	}
	return string(out), api.OK
}

func anyText(random *rand.Rand, n, letters int) string {
	b := make([]byte, n)
	for i := range b {
		b[i] = byte(random.Intn(letters))
	}
	return string(b)
}

func TestExamples(t *testing.T) {
	checkUnpack(t, "\x01\x00a\x82\x00\x00", 9, "aaaaaa", api.OK)
	checkUnpack(t, "\x01\x80\x00\x00", 9, "", api.ErrForm)
	checkUnpack(t, "\x00ab", 1, "", api.ErrLong)
}

func TestUnpackOfPlainStrings(t *testing.T) {
	full := strings.Repeat("x", api.MaxText)
	for _, c := range []struct {
		s    string
		most int
		want string
		err  api.Errno
	}{
		{"", 9, "", api.ErrForm},
		{"\x02", 9, "", api.ErrForm},
		{"\xff\x00", 9, "", api.ErrForm},
		{"a", 0, "", api.ErrForm},
		{"\x00", 0, "", api.OK},
		{"\x00", -1, "", api.OK},
		{"\x00", math.MinInt, "", api.OK},
		{"\x00a", 0, "", api.ErrLong},
		{"\x00a", -5, "", api.ErrLong},
		{"\x00a", 1, "a", api.OK},
		{"\x00\x01\x00", 2, "\x01\x00", api.OK},
		{"\x00" + full, api.MaxText, full, api.OK},
		{"\x00" + full, math.MaxInt, full, api.OK},
		{"\x00" + full, api.MaxText - 1, "", api.ErrLong},
		{"\x00" + full + "x", math.MaxInt, "", api.ErrLong},
	} {
		checkUnpack(t, c.s, c.most, c.want, c.err)
	}
}

func TestUnpackOfTokens(t *testing.T) {
	block := strings.Repeat("0123456789abcdef", 8)
	long := "\x01\x00x" + strings.Repeat("\xff\x00\x00", 504) // 1 and 504 times 130 bytes
	for _, c := range []struct {
		s    string
		most int
		want string
		err  api.Errno
	}{
		{"\x01", 0, "", api.OK},
		{"\x01", -1, "", api.OK},
		{"\x01\x00a", 1, "a", api.OK},
		{"\x01\x00a", 0, "", api.ErrLong},
		{"\x01\x00", 9, "", api.ErrForm},
		{"\x01\x00", 0, "", api.ErrForm},
		{"\x01\x02ab", 9, "", api.ErrForm},
		{"\x01\x02ab", 0, "", api.ErrForm},
		{"\x01\x7f" + block, 128, block, api.OK},
		{"\x01\x7f" + block[:127], 128, "", api.ErrForm},
		{"\x01\x7f" + block, 127, "", api.ErrLong},
		{"\x01\x00a\x80", 9, "", api.ErrForm},
		{"\x01\x00a\x80\x00", 9, "", api.ErrForm},
		{"\x01\x00a\x80\x00\x00", 9, "aaaa", api.OK},
		{"\x01\x00a\x80\x00\x00", 4, "aaaa", api.OK},
		{"\x01\x00a\x80\x00\x00", 3, "", api.ErrLong},
		{"\x01\x00a\xff\x00\x00", 131, strings.Repeat("a", 131), api.OK},
		{"\x01\x00a\x80\x01\x00", 9, "", api.ErrForm},
		{"\x01\x00a\x80\x00\x01", 9, "", api.ErrForm},
		{"\x01\x00a\x80\xff\xff", 0, "", api.ErrLong},
		{"\x01\x00a\x80\x01\x00", 1, "", api.ErrForm}, // before what would be too long
		{"\x01\x01ab\x81\x01\x00", 9, "ababab", api.OK},
		{"\x01\x02abc\x80\x01\x00\x00d", 9, "abcbcbd", api.OK},
		{"\x01\x02abc\x80\x02\x00\x80\x05\x00", 9, "abcabcabc", api.OK},
		{"\x01\x02abc\x80\x02\x00\x80\x06\x00", 9, "", api.ErrForm},
		{"\x01\x00a\x80\x00\x00\x00", 3, "", api.ErrLong}, // in the order of the tokens
		{"\x01\x00a\x00", 0, "", api.ErrLong},
		{long, api.MaxText, strings.Repeat("x", 65521), api.OK},
		{long + "\x0e" + block[:15], api.MaxText, strings.Repeat("x", 65521) + block[:15], api.OK},
		{long + "\x0f" + block[:16], math.MaxInt, "", api.ErrLong},
		{long + "\x8c\x00\x00", math.MaxInt, strings.Repeat("x", 65536), api.OK},
		{long + "\x8d\x00\x00", math.MaxInt, "", api.ErrLong},
		{long + "\x80\xf0\xff", math.MaxInt, strings.Repeat("x", 65524), api.OK},
		{long + "\x80\xf1\xff", math.MaxInt, "", api.ErrForm},
	} {
		checkUnpack(t, c.s, c.most, c.want, c.err)
	}
}

func TestUnpackOfAnyBytes(t *testing.T) {
	random := rand.New(rand.NewSource(1))
	for range 20000 {
		s := "\x01"
		for range random.Intn(6) {
			if random.Intn(2) == 0 {
				s += string([]byte{byte(128 + random.Intn(9)), byte(random.Intn(4)), byte(random.Intn(30) / 29)})
			} else {
				n := random.Intn(5)
				s += string([]byte{byte(n)}) + anyText(random, n+1, 256)
			}
		}
		s = s[:len(s)-random.Intn(2)*random.Intn(len(s))]
		most := random.Intn(30) - 1
		want, err := slowUnpack(s, most)
		checkUnpack(t, s, most, want, err)
	}
}

// checkPack: what is packed is read again, and not too long.
func checkPack(t *testing.T, s string) string {
	t.Helper()
	packed := lz.Pack(s)
	if len(packed) > len(s)+1 {
		t.Errorf("Pack of %d bytes has %d", len(s), len(packed))
	}
	checkUnpack(t, packed, len(s), s, api.OK)
	if want, err := slowUnpack(packed, len(s)); want != s || err != api.OK {
		t.Errorf("Pack(%.40q) is not of the form", s)
	}
	return packed
}

func TestPackOfEqualBytes(t *testing.T) {
	for n := range 3000 {
		packed := checkPack(t, strings.Repeat("\x00", n))
		if n >= 8 && len(packed) > 6+n/30 {
			t.Errorf("%d equal bytes are packed into %d", n, len(packed))
		}
	}
	for _, n := range []int{65535, 65536} {
		if packed := checkPack(t, strings.Repeat("\xff", n)); len(packed) > 6+n/30 {
			t.Errorf("%d equal bytes are packed into %d", n, len(packed))
		}
	}
}

func TestPackOfAnyTexts(t *testing.T) {
	random := rand.New(rand.NewSource(2))
	for _, letters := range []int{1, 2, 3, 10, 256} {
		for n := range 300 {
			checkPack(t, anyText(random, n, letters))
		}
		for _, n := range []int{5000, 65535, 65536} {
			checkPack(t, anyText(random, n, letters))
		}
	}
}

func TestPackOfWhatRepeats(t *testing.T) {
	random := rand.New(rand.NewSource(3))
	for _, far := range []int{1, 3, 64, 127, 128, 129, 130, 131, 255, 256, 257, 32768, 65000} {
		part := anyText(random, far, 256)
		s := part + part
		if len(s) > api.MaxText {
			s = s[:api.MaxText]
		}
		packed := checkPack(t, s)
		if far >= 64 && len(packed) > far+far/100+far/30+16 {
			t.Errorf("%d bytes twice are packed into %d", far, len(packed))
		}
	}
}

func TestPackOfTooMuch(t *testing.T) {
	s := strings.Repeat("x", api.MaxText+1)
	if packed := lz.Pack(s); packed != "\x00"+s {
		t.Errorf("Pack of too much has %d bytes", len(packed))
	}
	checkUnpack(t, lz.Pack(s), len(s), "", api.ErrLong)
	if packed := lz.Pack(s + s); packed != "\x00"+s+s {
		t.Errorf("Pack of twice too much has %d bytes", len(packed))
	}
}

func TestPackOfNothing(t *testing.T) {
	if packed := lz.Pack(""); packed != "\x00" && packed != "\x01" {
		t.Errorf("Pack of nothing is %q", packed)
	}
	checkPack(t, "")
}

func TestTheSameTwice(t *testing.T) {
	random := rand.New(rand.NewSource(4))
	s := anyText(random, 5000, 3)
	packs := []string{lz.Pack(s), lz.Pack(s), lz.Pack(strings.Clone(s))}
	if len(slices.Compact(packs)) != 1 {
		t.Error("Pack differs from time to time")
	}
}

func TestResultsAreNew(t *testing.T) {
	s := "\x00" + strings.Repeat("abc", 20)
	text, _ := lz.Unpack(s, 99)
	if unsafe.StringData(text) == unsafe.StringData(s[1:]) {
		t.Error("Unpack's result shares memory")
	}
	text, _ = lz.Unpack("\x01\x02abc", 99)
	if text != "abc" {
		t.Errorf("Unpack is %q", text)
	}
}
