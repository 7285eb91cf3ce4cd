package bch_test

import (
	"math"
	"math/bits"
	"math/rand"
	"slices"
	"strings"
	"sync"
	"testing"

	"chert/api"
	"chert/bch"
	"chert/gf"
	"chert/poly"
)

func newCode(t *testing.T, most, chunk int) *bch.Code {
	t.Helper()
	c, err := bch.New(most, chunk)
	if c == nil || err != api.OK {
		t.Fatalf("New(%d, %d) is %v, %d", most, chunk, c, err)
	}
	return c
}

func generator(most int) poly.Poly {
	var f gf.Field
	g, _ := poly.Generator(&f, most)
	return g
}

func anyText(random *rand.Rand, n int) string {
	b := make([]byte, n)
	random.Read(b)
	return string(b)
}

// wordOf: the polynomial of a chunk and a parity, by the chapter's words.
func wordOf(data, parity string, degree int) poly.Poly {
	n := 8*len(data) + degree
	text := data + parity
	var exponents []int
	for bit := range n {
		if text[bit/8]>>(7-bit%8)&1 == 1 {
			exponents = append(exponents, n-1-bit)
		}
	}
	return poly.Of(exponents...)
}

// parityOf: the bits of what g leaves of a polynomial.
func parityOf(p poly.Poly, g poly.Poly) string {
	parity := make([]byte, (g[0]+7)/8)
	rest, _ := poly.Mod(p, g)
	for _, e := range rest {
		bit := g[0] - 1 - e
		parity[bit/8] |= 0x80 >> (bit % 8)
	}
	return string(parity)
}

// slowParity divides by the generator of layer 2.
func slowParity(data string, g poly.Poly) string {
	blank := strings.Repeat("\x00", (g[0]+7)/8)
	return parityOf(wordOf(data, blank, g[0]), g)
}

// turned: the text with some bits inverted.
func turned(text string, places ...int) string {
	b := []byte(text)
	for _, bit := range places {
		b[bit/8] ^= 0x80 >> (bit % 8)
	}
	return string(b)
}

// distance: in how many bits two texts of one length differ.
func distance(a, b string) int {
	n := 0
	for i := range len(a) {
		n += bits.OnesCount8(a[i] ^ b[i])
	}
	return n
}

// anyPlaces: n different ones below most.
func anyPlaces(random *rand.Rand, n, most int) []int { return random.Perm(most)[:n] }

func TestNew(t *testing.T) {
	for _, c := range [][2]int{{0, 1}, {9, 1}, {-1, 1}, {1, 0}, {1, 257}, {1, -1}, {8, 257}, {9, 256}, {0, 0},
		{math.MinInt, 1}, {math.MaxInt, 1}, {1, math.MinInt}, {1, math.MaxInt}} {
		if code, err := bch.New(c[0], c[1]); code != nil || err != api.ErrArg {
			t.Errorf("New(%d, %d) is %v, %d", c[0], c[1], code, err)
		}
	}
	for most := 1; most <= api.MaxT; most++ {
		for _, chunk := range []int{1, 2, 16, 255, 256} {
			newCode(t, most, chunk)
		}
	}
}

func TestParity(t *testing.T) {
	for most, want := range []int{2, 4, 5, 7, 9, 10, 12, 13} {
		for _, chunk := range []int{1, 7, 256} {
			if got := newCode(t, most+1, chunk).Parity(); got != want {
				t.Errorf("the Parity of New(%d, %d) is %d, not %d", most+1, chunk, got, want)
			}
		}
	}
}

func TestEncode(t *testing.T) {
	c := newCode(t, 1, 1)
	for data, want := range map[string]string{"\x00": "\x00\x00", "\x01": "\x00\xd8"} {
		if got, err := c.Encode(data); got != want || err != api.OK {
			t.Errorf("Encode(%q) is %q, %d, not %q", data, got, err, want)
		}
	}
	for _, chunk := range []int{1, 2, 256} {
		c := newCode(t, 2, chunk)
		for _, n := range []int{0, chunk - 1, chunk + 1, 3 * chunk, 1000} {
			if got, err := c.Encode(strings.Repeat("x", n)); n != chunk && (got != "" || err != api.ErrLong) {
				t.Errorf("Encode of %d bytes for %d is %q, %d", n, chunk, got, err)
			}
		}
	}
}

func TestEncodeOfAny(t *testing.T) {
	random := rand.New(rand.NewSource(1))
	for most := 1; most <= api.MaxT; most++ {
		g := generator(most)
		for _, chunk := range []int{1, 2, 3, 16, 100, 255, 256} {
			c := newCode(t, most, chunk)
			for range 4 {
				data := anyText(random, chunk)
				got, err := c.Encode(data)
				if want := slowParity(data, g); got != want || err != api.OK {
					t.Fatalf("t %d: Encode(%q) is %q, %d, not %q", most, data, got, err, want)
				}
				if rest, _ := poly.Mod(wordOf(data, got, g[0]), g); len(rest) != 0 {
					t.Fatalf("t %d: %q and %q leave %v", most, data, got, rest)
				}
			}
		}
	}
}

func TestDecodeOfTheWrongLength(t *testing.T) {
	for _, chunk := range []int{1, 2, 256} {
		c := newCode(t, 1, chunk)
		for _, n := range []int{0, 1, chunk - 1, chunk, chunk + 1, 300} {
			for p := range 5 {
				data, parity := strings.Repeat("\x00", n), strings.Repeat("\x00", p)
				fits := n == chunk && p == 2
				gotData, gotParity, count, ok := c.Decode(data, parity)
				if fits && (gotData != data || gotParity != parity || count != 0 || !ok) {
					t.Errorf("Decode of a good word is %q, %q, %d, %v", gotData, gotParity, count, ok)
				}
				if !fits && (gotData != "" || gotParity != "" || count != 0 || ok) {
					t.Errorf("Decode of %d and %d bytes for %d is %q, %q, %d, %v", n, p, chunk, gotData, gotParity, count, ok)
				}
			}
		}
	}
}

func TestDecodeCorrects(t *testing.T) {
	random := rand.New(rand.NewSource(2))
	for most := 1; most <= api.MaxT; most++ {
		for _, chunk := range []int{1, 2, 16, 32, 128, 255, 256} {
			c := newCode(t, most, chunk)
			for count := range most + 1 {
				for range 5 {
					data := anyText(random, chunk)
					parity, _ := c.Encode(data)
					places := anyPlaces(random, count, 8*chunk+13*most)
					word := turned(data+parity, places...)
					gotData, gotParity, got, ok := c.Decode(word[:chunk], word[chunk:])
					if gotData != data || gotParity != parity || got != count || !ok {
						t.Fatalf("t %d, chunk %d: with the bits %v turned %d, %v", most, chunk, places, got, ok)
					}
				}
			}
		}
	}
}

// TestDecodeAtTheEnds: all of the bits that are turned stand side by side, at the beginning, at the border of the parity, and at the end.
func TestDecodeAtTheEnds(t *testing.T) {
	random := rand.New(rand.NewSource(3))
	for most := 1; most <= api.MaxT; most++ {
		for _, chunk := range []int{1, 16, 256} {
			c := newCode(t, most, chunk)
			n := 8*chunk + 13*most
			data := anyText(random, chunk)
			parity, _ := c.Encode(data)
			for count := 1; count <= most; count++ {
				for _, first := range []int{0, 8*chunk - count, 8*chunk - count/2, 8 * chunk, n - count} {
					var places []int
					for i := range count {
						places = append(places, first+i)
					}
					word := turned(data+parity, places...)
					gotData, gotParity, got, ok := c.Decode(word[:chunk], word[chunk:])
					if gotData != data || gotParity != parity || got != count || !ok {
						t.Fatalf("t %d, chunk %d: with the bits %v turned %d, %v", most, chunk, places, got, ok)
					}
				}
			}
		}
	}
}

// TestDecodeOfEachBit: any single bit of a word, and any pair where two are corrected.
func TestDecodeOfEachBit(t *testing.T) {
	c := newCode(t, 2, 4)
	data := "\x00\xff\x5a\x01"
	parity, _ := c.Encode(data)
	for a := range 58 {
		for b := range a + 1 {
			places := slices.Compact([]int{b, a})
			word := turned(data+parity, places...)
			gotData, gotParity, got, ok := c.Decode(word[:4], word[4:])
			if gotData != data || gotParity != parity || got != len(places) || !ok {
				t.Fatalf("with the bits %v turned %q, %q, %d, %v", places, gotData, gotParity, got, ok)
			}
		}
	}
}

func TestSpareBits(t *testing.T) {
	random := rand.New(rand.NewSource(4))
	for most := 1; most <= api.MaxT; most++ {
		c := newCode(t, most, 3)
		data := anyText(random, 3)
		parity, _ := c.Encode(data)
		degree := 13 * most
		for spare := range 1 << (8*len(parity) - degree) {
			for _, count := range []int{0, most} {
				word := []byte(turned(data+parity, anyPlaces(random, count, 24+degree)...))
				word[len(word)-1] |= byte(spare)
				gotData, gotParity, got, ok := c.Decode(string(word[:3]), string(word[3:]))
				if gotData != data || gotParity != parity || got != count || !ok {
					t.Fatalf("t %d, spare bits %b: %q, %q, %d, %v", most, spare, gotData, gotParity, got, ok)
				}
			}
		}
	}
}

// nearest: of all code words the one within most bits of a word, looked for one by one.
func nearest(words []string, word string, most int) (string, int, bool) {
	for _, w := range words {
		if n := distance(w, word); n <= most {
			return w, n, true
		}
	}
	return "", 0, false
}

// codeWords: all of them for a chunk of one byte.
func codeWords(c *bch.Code) []string {
	var words []string
	for b := range 256 {
		data := string([]byte{byte(b)})
		parity, _ := c.Encode(data)
		words = append(words, data+parity)
	}
	return words
}

func checkNearest(t *testing.T, c *bch.Code, words []string, word string, most int) {
	t.Helper()
	want, count, found := nearest(words, word, most)
	data, parity, got, ok := c.Decode(word[:1], word[1:])
	if data+parity != want || got != count || ok != found {
		t.Fatalf("t %d: Decode(%q) is %q, %q, %d, %v, not %q, %d, %v", most, word, data, parity, got, ok, want, count, found)
	}
}

// TestDecodeOfAnyWord: whatever a word is, what is answered is what a search of all code words finds.
func TestDecodeOfAnyWord(t *testing.T) {
	random := rand.New(rand.NewSource(5))
	for most := 1; most <= api.MaxT; most++ {
		c := newCode(t, most, 1)
		words := codeWords(c)
		degree := 13 * most
		for range 2000 {
			word := []byte(anyText(random, 1+c.Parity()))
			word[len(word)-1] &^= 1<<(8*c.Parity()-degree) - 1
			checkNearest(t, c, words, string(word), most)
		}
		for range 4000 {
			count := random.Intn(2*most + 3)
			word := turned(words[random.Intn(256)], anyPlaces(random, count, 8+degree)...)
			checkNearest(t, c, words, word, most)
		}
	}
}

// TestDecodeOfEachWord: all words of the least code.
func TestDecodeOfEachWord(t *testing.T) {
	c := newCode(t, 1, 1)
	want := make(map[string]string)
	for _, w := range codeWords(c) {
		want[w] = w
		for bit := range 21 {
			want[turned(w, bit)] = w
		}
	}
	for n := range 1 << 21 {
		word := string([]byte{byte(n >> 13), byte(n >> 5), byte(n << 3)})
		data, parity, count, ok := c.Decode(word[:1], word[1:])
		w, found := want[word]
		if data+parity != w || ok != found || ok && count != distance(w, word) || !ok && count != 0 {
			t.Fatalf("Decode(%q) is %q, %q, %d, %v, not %q", word, data, parity, count, ok, w)
		}
	}
}

// TestDecodeOfTooMany: with more bits turned than are corrected the answer is false, or a code word that is no farther than those.
func TestDecodeOfTooMany(t *testing.T) {
	random := rand.New(rand.NewSource(6))
	refused := 0
	for most := 1; most <= api.MaxT; most++ {
		for _, chunk := range []int{2, 16, 256} {
			c := newCode(t, most, chunk)
			data := anyText(random, chunk)
			parity, _ := c.Encode(data)
			for count := most + 1; count <= most+4; count++ {
				for range 10 {
					word := turned(data+parity, anyPlaces(random, count, 8*chunk+13*most)...)
					gotData, gotParity, got, ok := c.Decode(word[:chunk], word[chunk:])
					if !ok {
						refused++
						if gotData != "" || gotParity != "" || got != 0 {
							t.Fatalf("beside false %q, %q, %d", gotData, gotParity, got)
						}
						continue
					}
					again, _ := c.Encode(gotData)
					if gotParity != again || got > most || got != distance(gotData+gotParity, word) || gotData == data {
						t.Fatalf("t %d, chunk %d: %d bits turned: %q, %q, %d", most, chunk, count, gotData, gotParity, got)
					}
				}
			}
		}
	}
	if refused == 0 {
		t.Error("none was refused")
	}
}

// TestDecodeBeyondTheWord: words whose nearest code word differs from them behind their first coefficient, where a word of the chunk has none.
func TestDecodeBeyondTheWord(t *testing.T) {
	random := rand.New(rand.NewSource(7))
	for most := 1; most <= api.MaxT; most++ {
		g := generator(most)
		for _, chunk := range []int{1, 16, 256} {
			c := newCode(t, most, chunk)
			n := 8*chunk + g[0]
			for _, beyond := range []int{n, n + 1, 4000, 8190} {
				for within := range most {
					places := append(anyPlaces(random, within, n), beyond)
					parity := parityOf(places, g)
					if d, p, count, ok := c.Decode(strings.Repeat("\x00", chunk), parity); d != "" || p != "" || count != 0 || ok {
						t.Errorf("t %d, chunk %d, places %v: %q, %q, %d, %v", most, chunk, places, d, p, count, ok)
					}
				}
			}
		}
	}
}

func TestBlankWords(t *testing.T) {
	for most := 1; most <= api.MaxT; most++ {
		c := newCode(t, most, 32)
		data, parity := strings.Repeat("\x00", 32), strings.Repeat("\x00", c.Parity())
		if d, p, count, ok := c.Decode(data, parity); d != data || p != parity || count != 0 || !ok {
			t.Errorf("t %d: Decode of zeros is %q, %q, %d, %v", most, d, p, count, ok)
		}
		full, fullParity := strings.Repeat("\xff", 32), strings.Repeat("\xff", c.Parity())
		if d, p, count, ok := c.Decode(full, fullParity); ok {
			if again, _ := c.Encode(d); again != p || count > most {
				t.Errorf("t %d: Decode of ones is %q, %q, %d", most, d, p, count)
			}
		}
	}
}

func TestNilCode(t *testing.T) {
	for _, c := range []*bch.Code{nil, {}} {
		if c.Parity() != 0 {
			t.Errorf("Parity is %d", c.Parity())
		}
		for _, data := range []string{"", "x"} {
			if p, err := c.Encode(data); p != "" || err != api.ErrArg {
				t.Errorf("Encode(%q) is %q, %d", data, p, err)
			}
			if d, p, count, ok := c.Decode(data, ""); d != "" || p != "" || count != 0 || ok {
				t.Errorf("Decode(%q) is %q, %q, %d, %v", data, d, p, count, ok)
			}
		}
	}
}

// TestGoroutinesShareACode: the first calls of a code come at the same time.
func TestGoroutinesShareACode(t *testing.T) {
	for most := 1; most <= api.MaxT; most++ {
		c := newCode(t, most, 64)
		g := generator(most)
		var group sync.WaitGroup
		faults := make([]int, 8)
		for i := range faults {
			group.Add(1)
			go func() {
				defer group.Done()
				random := rand.New(rand.NewSource(int64(i)))
				for range 20 {
					data := anyText(random, 64)
					parity, err := c.Encode(data)
					word := turned(data+parity, anyPlaces(random, most, 512+13*most)...)
					d, p, count, ok := c.Decode(word[:64], word[64:])
					if err != api.OK || parity != slowParity(data, g) || d != data || p != parity || count != most || !ok || c.Parity() != len(parity) {
						faults[i]++
					}
				}
			}()
		}
		group.Wait()
		if !slices.Equal(faults, make([]int, 8)) {
			t.Errorf("t %d: faults %v", most, faults)
		}
	}
}
