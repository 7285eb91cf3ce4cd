package page_test

import (
	"math"
	"math/bits"
	"math/rand"
	"strings"
	"testing"
	"unsafe"

	"chert/api"
	"chert/bch"
	"chert/crc"
	"chert/nand"
	"chert/page"
)

// geometries is what most tests go through.
var geometries = []api.Geometry{
	geometry(8, 4, 1, 32, 1),
	geometry(14, 16, 2, 128, 2),
	geometry(1, 4, 1, 16, 8),
	geometry(2, 8, 3, 17, 3),
	geometry(2, 64, 4, 16, 5),
	geometry(64, 4, 4, 256, 8),
	geometry(3, 12, 2, 100, 7),
}

// geometry: with its numbers in the order of the chapter's example.
func geometry(blocks, pages, chunks, chunk, t int) api.Geometry {
	return api.Geometry{Blocks: blocks, Pages: pages, Chunks: chunks, Chunk: chunk, T: t}
}

// wrong is what is no valid geometry.
var wrong = []api.Geometry{
	{},
	geometry(0, 4, 1, 32, 1), geometry(-1, 4, 1, 32, 1), geometry(65, 4, 1, 32, 1), geometry(math.MinInt, 4, 1, 32, 1), geometry(math.MaxInt, 4, 1, 32, 1),
	geometry(8, 0, 1, 32, 1), geometry(8, 3, 1, 32, 1), geometry(8, 5, 1, 32, 1), geometry(8, 62, 1, 32, 1), geometry(8, 68, 1, 32, 1), geometry(8, -4, 1, 32, 1), geometry(8, math.MinInt, 1, 32, 1), geometry(8, math.MaxInt, 1, 32, 1),
	geometry(8, 4, 0, 32, 1), geometry(8, 4, 5, 32, 1), geometry(8, 4, -1, 32, 1), geometry(8, 4, math.MinInt, 32, 1), geometry(8, 4, math.MaxInt, 32, 1),
	geometry(8, 4, 1, 15, 1), geometry(8, 4, 1, 0, 1), geometry(8, 4, 1, -16, 1), geometry(8, 4, 1, 257, 1), geometry(8, 4, 1, math.MinInt, 1), geometry(8, 4, 1, math.MaxInt, 1),
	geometry(8, 4, 1, 32, 0), geometry(8, 4, 1, 32, -1), geometry(8, 4, 1, 32, 9), geometry(8, 4, 1, 32, math.MinInt), geometry(8, 4, 1, 32, math.MaxInt),
}

// parities: how many bytes the parity of a chunk has, by how many bits are corrected.
var parities = []int{0, 2, 4, 5, 7, 9, 10, 12, 13}

func rawBytes(g api.Geometry) int { return g.Chunks * (g.Chunk + parities[g.T]) }

func payloadBytes(g api.Geometry) int { return g.Chunks*g.Chunk - 7 }

func newPager(t *testing.T, g api.Geometry) (*page.Pager, *nand.Chip) {
	t.Helper()
	c, err := page.Chip(g)
	if c == nil || err != api.OK {
		t.Fatalf("Chip(%v) is %v, %d", g, c, err)
	}
	return pagerOf(t, c, g), c
}

func pagerOf(t *testing.T, c *nand.Chip, g api.Geometry) *page.Pager {
	t.Helper()
	p, err := page.New(c, g)
	if p == nil || err != api.OK {
		t.Fatalf("New of %v is %v, %d", g, p, err)
	}
	return p
}

func anyText(random *rand.Rand, n int) string {
	b := make([]byte, n)
	random.Read(b)
	return string(b)
}

// rawOf: the bytes of a page with a body, by the chapter's words.
func rawOf(g api.Geometry, body string) string {
	code, _ := bch.New(g.T, g.Chunk)
	raw := ""
	for len(body) > 0 {
		parity, _ := code.Encode(body[:g.Chunk])
		raw += body[:g.Chunk] + parity
		body = body[g.Chunk:]
	}
	return raw
}

// bodyOf: with a mark and a payload of any length, by the chapter's words.
func bodyOf(g api.Geometry, mark, payload string) string {
	return crc.Seal(mark + payload + strings.Repeat("\x00", payloadBytes(g)-len(payload)))
}

// turned: the text with some bits inverted.
func turned(text string, places ...int) string {
	b := []byte(text)
	for _, bit := range places {
		b[bit/8] ^= 0x80 >> (bit % 8)
	}
	return string(b)
}

// anyBits: count different ones of a chunk and its parity, as places in the page; the spare bits are not among them.
func anyBits(random *rand.Rand, g api.Geometry, chunk, count int) []int {
	places := random.Perm(8*g.Chunk + 13*g.T)[:count]
	for i := range places {
		places[i] += 8 * chunk * (g.Chunk + parities[g.T])
	}
	return places
}

// laid: what a pager finds on a page with these raw bytes.
func laid(t *testing.T, g api.Geometry, raw string) page.Found {
	t.Helper()
	p, c := newPager(t, g)
	if err := c.Program(0, 1, raw); err != api.OK {
		t.Fatalf("Program is %d", err)
	}
	return mustRead(t, p, 0, 1)
}

func mustRead(t *testing.T, p *page.Pager, b, n int) page.Found {
	t.Helper()
	found, err := p.Read(b, n)
	if err != api.OK {
		t.Fatalf("Read(%d, %d) is %v, %d", b, n, found, err)
	}
	return found
}

func checkFound(t *testing.T, what string, got, want page.Found) {
	t.Helper()
	if got != want {
		t.Errorf("%s: %d, %q, %d, not %d, %q, %d", what, got.State, got.Payload, got.Turned, want.State, want.Payload, want.Turned)
	}
}

func TestStates(t *testing.T) {
	if page.Empty != 0 || page.Good != 1 || page.Bad != 2 {
		t.Error("the states' numbers")
	}
}

func TestRaw(t *testing.T) {
	for _, g := range geometries {
		if raw, payload := page.Raw(g); raw != rawBytes(g) || payload != payloadBytes(g) {
			t.Errorf("Raw(%v) is %d, %d", g, raw, payload)
		}
	}
	if raw, payload := page.Raw(geometries[0]); raw != 34 || payload != 25 {
		t.Errorf("Raw of the example is %d, %d", raw, payload)
	}
	for _, blocks := range []int{1, 64} {
		for _, pages := range []int{4, 8, 60, 64} {
			for _, chunks := range []int{1, 2, 3, 4} {
				for _, chunk := range []int{16, 17, 255, 256} {
					g := api.Geometry{Blocks: blocks, Pages: pages, Chunks: chunks, Chunk: chunk, T: 1 + (chunk+chunks)%8}
					if raw, payload := page.Raw(g); raw != rawBytes(g) || payload != payloadBytes(g) {
						t.Errorf("Raw(%v) is %d, %d", g, raw, payload)
					}
				}
			}
		}
	}
}

func TestWrongGeometries(t *testing.T) {
	chip, _ := page.Chip(geometries[0])
	for _, g := range wrong {
		if raw, payload := page.Raw(g); raw != 0 || payload != 0 {
			t.Errorf("Raw(%v) is %d, %d", g, raw, payload)
		}
		if c, err := page.Chip(g); c != nil || err != api.ErrArg {
			t.Errorf("Chip(%v) is %v, %d", g, c, err)
		}
		if p, err := page.New(chip, g); p != nil || err != api.ErrArg {
			t.Errorf("New of %v is %v, %d", g, p, err)
		}
		if p, err := page.New(nil, g); p != nil || err != api.ErrArg {
			t.Errorf("New of no chip and %v is %v, %d", g, p, err)
		}
	}
	for _, g := range geometries {
		if p, err := page.New(nil, g); p != nil || err != api.ErrArg {
			t.Errorf("New of no chip and %v is %v, %d", g, p, err)
		}
	}
}

func TestChip(t *testing.T) {
	for _, g := range geometries {
		c, err := page.Chip(g)
		if err != api.OK || !c.Is(g.Blocks, g.Pages, rawBytes(g)) || c.Changes() != 0 || c.Off() {
			t.Errorf("Chip(%v) is %v, %d", g, c, err)
		}
	}
}

func TestWriteLaysThePage(t *testing.T) {
	random := rand.New(rand.NewSource(1))
	for _, g := range geometries {
		for _, n := range []int{0, 1, payloadBytes(g) - 1, payloadBytes(g)} {
			p, c := newPager(t, g)
			payload := anyText(random, n)
			if err := p.Write(g.Blocks-1, 2, payload); err != api.OK {
				t.Fatalf("%v: Write of %d bytes is %d", g, n, err)
			}
			want := rawOf(g, bodyOf(g, "\x00\x00\x00", payload))
			if raw, err := c.Read(g.Blocks-1, 2); raw != want || err != api.OK {
				t.Errorf("%v: the page with %x is %x, %d, not %x", g, payload, raw, err, want)
			}
			if c.Changes() != 1 {
				t.Errorf("%v: %d changes", g, c.Changes())
			}
		}
	}
}

// TestWriteOfAKnownPage: the bytes stand here whole.
func TestWriteOfAKnownPage(t *testing.T) {
	p, c := newPager(t, geometries[0])
	if err := p.Write(0, 0, "chert"); err != api.OK {
		t.Fatalf("Write is %d", err)
	}
	raw, _ := c.Read(0, 0)
	body := "\x00\x00\x00chert" + strings.Repeat("\x00", 20)
	sum := crc.Sum(body)
	body += string([]byte{byte(sum), byte(sum >> 8), byte(sum >> 16), byte(sum >> 24)})
	if len(raw) != 34 || raw[:32] != body {
		t.Errorf("the page is %x, not %x and a parity", raw, body)
	}
}

func TestWriteErrors(t *testing.T) {
	g := geometries[1]
	p, c := newPager(t, g)
	long, fits := strings.Repeat("x", payloadBytes(g)+1), strings.Repeat("x", payloadBytes(g))
	for _, place := range [][2]int{{0, 0}, {-1, 0}, {0, 16}, {14, 0}, {math.MinInt, math.MaxInt}} {
		for _, payload := range []string{long, strings.Repeat("x", 100000)} {
			if err := p.Write(place[0], place[1], payload); err != api.ErrLong {
				t.Errorf("Write(%v) of %d bytes is %d", place, len(payload), err)
			}
		}
	}
	for _, place := range [][2]int{{-1, 0}, {14, 0}, {0, -1}, {0, 16}, {math.MaxInt, 0}, {0, math.MinInt}} {
		if err := p.Write(place[0], place[1], fits); err != api.ErrArg {
			t.Errorf("Write(%v) is %d", place, err)
		}
	}
	if err := p.Write(0, 3, fits); err != api.OK {
		t.Errorf("Write is %d", err)
	}
	if err := p.Write(0, 3, ""); err != api.ErrOrder {
		t.Errorf("Write again is %d", err)
	}
	if err := p.Write(0, 2, ""); err != api.ErrOrder {
		t.Errorf("Write before is %d", err)
	}
	c.Wear(1)
	if err := p.Write(1, 0, ""); err != api.ErrWorn {
		t.Errorf("Write of a worn block is %d", err)
	}
	c.Cut(1, 0)
	for range 2 {
		if err := p.Write(2, 0, ""); err != api.ErrPower {
			t.Errorf("Write without power is %d", err)
		}
	}
	if err := p.Write(2, 0, long); err != api.ErrLong {
		t.Errorf("Write of too much without power is %d", err)
	}
	if c.Changes() != 2 {
		t.Errorf("%d changes", c.Changes())
	}
}

func TestReadErrors(t *testing.T) {
	g := geometries[1]
	p, c := newPager(t, g)
	p.Write(0, 0, "x")
	for _, place := range [][2]int{{-1, 0}, {14, 0}, {0, -1}, {0, 16}, {math.MaxInt, 0}, {0, math.MinInt}} {
		if found, err := p.Read(place[0], place[1]); found != (page.Found{}) || err != api.ErrArg {
			t.Errorf("Read(%v) is %v, %d", place, found, err)
		}
	}
	c.Cut(1, 0)
	p.Write(0, 1, "y")
	if found, err := p.Read(0, 0); found != (page.Found{}) || err != api.ErrPower {
		t.Errorf("Read without power is %v, %d", found, err)
	}
	c.On()
	if _, reads := c.Counts(0); reads != 0 {
		t.Errorf("%d reads", reads)
	}
	mustRead(t, p, 0, 0)
	if _, reads := c.Counts(0); reads != 1 {
		t.Errorf("a Read is %d reads of the chip", reads)
	}
}

func TestReadOfWhatWasWritten(t *testing.T) {
	random := rand.New(rand.NewSource(2))
	for _, g := range geometries {
		size := payloadBytes(g)
		p, _ := newPager(t, g)
		for n, payload := range []string{"", strings.Repeat("\xff", size), anyText(random, size), anyText(random, size/2)} {
			if err := p.Write(0, n, payload); err != api.OK {
				t.Fatalf("Write is %d", err)
			}
			padded := payload + strings.Repeat("\x00", size-len(payload))
			for range 2 {
				checkFound(t, "a written page", mustRead(t, p, 0, n), page.Found{State: page.Good, Payload: padded})
			}
		}
	}
}

func TestReadWithTurnedBits(t *testing.T) {
	random := rand.New(rand.NewSource(3))
	for _, g := range geometries {
		for range 20 {
			payload := anyText(random, payloadBytes(g))
			var places []int
			for chunk := range g.Chunks {
				places = append(places, anyBits(random, g, chunk, random.Intn(g.T+1))...)
			}
			raw := turned(rawOf(g, bodyOf(g, "\x00\x00\x00", payload)), places...)
			checkFound(t, "with few bits turned", laid(t, g, raw), page.Found{State: page.Good, Payload: payload, Turned: len(places)})
		}
		var all []int
		for chunk := range g.Chunks {
			all = append(all, anyBits(random, g, chunk, g.T)...)
		}
		payload := anyText(random, payloadBytes(g))
		raw := turned(rawOf(g, bodyOf(g, "\x00\x00\x00", payload)), all...)
		checkFound(t, "with as many as can be", laid(t, g, raw), page.Found{State: page.Good, Payload: payload, Turned: g.Chunks * g.T})
	}
}

// TestSpareBits: they are no bits of the page's content, but where a page looks empty.
func TestSpareBits(t *testing.T) {
	for _, g := range geometries {
		payload := strings.Repeat("p", payloadBytes(g))
		raw := []byte(rawOf(g, bodyOf(g, "\x00\x00\x00", payload)))
		spare := 8*parities[g.T] - 13*g.T
		for chunk := range g.Chunks {
			raw[(chunk+1)*(g.Chunk+parities[g.T])-1] |= 1<<spare - 1
		}
		checkFound(t, "with spare bits", laid(t, g, string(raw)), page.Found{State: page.Good, Payload: payload})
	}
}

func TestReadOfAnEmptyPage(t *testing.T) {
	random := rand.New(rand.NewSource(4))
	for _, g := range geometries {
		p, _ := newPager(t, g)
		checkFound(t, "an erased page", mustRead(t, p, 0, 0), page.Found{})
		blank := strings.Repeat("\xff", rawBytes(g))
		step := 8 * (g.Chunk + parities[g.T])
		for range 10 {
			var places []int
			for chunk := range g.Chunks {
				for _, bit := range random.Perm(step)[:g.T] { // the spare bits too
					places = append(places, chunk*step+bit)
				}
			}
			checkFound(t, "with as many bits 0 as can be", laid(t, g, turned(blank, places...)), page.Found{})
		}
		for chunk := range g.Chunks { // one more in one of the chunks
			var places []int
			for _, bit := range random.Perm(step)[:g.T+1] {
				places = append(places, chunk*step+bit)
			}
			checkFound(t, "with too many bits 0", laid(t, g, turned(blank, places...)), page.Found{State: page.Bad})
		}
	}
}

// TestSpareBitsOfAnEmptyPage: the chunk with its parity has them too.
func TestSpareBitsOfAnEmptyPage(t *testing.T) {
	g := geometries[0] // three spare bits, the last of 272
	blank := strings.Repeat("\xff", 34)
	for bit := 269; bit < 272; bit++ {
		checkFound(t, "a spare bit 0", laid(t, g, turned(blank, bit)), page.Found{})
		checkFound(t, "a spare bit and another 0", laid(t, g, turned(blank, bit, 5)), page.Found{State: page.Bad})
	}
}

func TestReadOfALostPage(t *testing.T) {
	random := rand.New(rand.NewSource(5))
	for _, g := range geometries {
		for range 20 {
			payload := anyText(random, payloadBytes(g))
			raw := rawOf(g, bodyOf(g, "\x00\x00\x00", payload))
			chunk := random.Intn(g.Chunks)
			places := anyBits(random, g, chunk, g.T+1+random.Intn(3))
			checkFound(t, "with too many bits turned", laid(t, g, turned(raw, places...)), page.Found{State: page.Bad})
		}
		checkFound(t, "of any bytes", laid(t, g, anyText(random, rawBytes(g))), page.Found{State: page.Bad})
	}
}

// TestReadOfAWrongSeal: all chunks are good, but they do not belong together.
func TestReadOfAWrongSeal(t *testing.T) {
	random := rand.New(rand.NewSource(6))
	for _, g := range geometries {
		body := bodyOf(g, "\x00\x00\x00", anyText(random, payloadBytes(g)))
		for _, bit := range []int{0, 23, 24, 8*len(body) - 33, 8*len(body) - 32, 8*len(body) - 1} {
			checkFound(t, "a wrong seal", laid(t, g, rawOf(g, turned(body, bit))), page.Found{State: page.Bad})
		}
		checkFound(t, "nothing but ones", laid(t, g, rawOf(g, strings.Repeat("\xff", len(body)))), page.Found{State: page.Bad})
		checkFound(t, "nothing but zeros", laid(t, g, rawOf(g, strings.Repeat("\x00", len(body)))), page.Found{State: page.Bad})
	}
}

// TestReadOfAWrongMark: the seal is right.
func TestReadOfAWrongMark(t *testing.T) {
	for _, g := range geometries {
		for _, mark := range []string{"\x01\x00\x00", "\x00\x01\x00", "\x00\x00\x01", "\xff\xff\xff", "abc"} {
			checkFound(t, "a wrong mark", laid(t, g, rawOf(g, bodyOf(g, mark, "x"))), page.Found{State: page.Bad})
		}
		payload := strings.Repeat("x", payloadBytes(g))
		checkFound(t, "the right mark", laid(t, g, rawOf(g, bodyOf(g, "\x00\x00\x00", payload))), page.Found{State: page.Good, Payload: payload})
	}
}

// TestReadThroughNoise: of at most T bits of each chunk and its parity, whatever the page is.
func TestReadThroughNoise(t *testing.T) {
	random := rand.New(rand.NewSource(7))
	for _, g := range geometries {
		for _, most := range []int{1, g.T} {
			p, c := newPager(t, g)
			payload := anyText(random, payloadBytes(g))
			p.Write(0, 0, payload)
			p.Write(0, 1, payload)
			c.Spoil(0, 1)
			clean, _ := c.Read(0, 0)
			c.Noise(int(random.Uint64()), most, g.Chunk+parities[g.T])
			some := 0
			for range 50 {
				found := mustRead(t, p, 0, 0)
				checkFound(t, "a written page", found, page.Found{State: page.Good, Payload: payload, Turned: found.Turned})
				if found.Turned < 0 || found.Turned > g.Chunks*most {
					t.Errorf("%v: %d bits turned", g, found.Turned)
				}
				some += found.Turned
				checkFound(t, "a spoilt page", mustRead(t, p, 0, 1), page.Found{State: page.Bad})
				checkFound(t, "an erased page", mustRead(t, p, 0, 2), page.Found{})
			}
			if some == 0 {
				t.Error("no bit turned")
			}
			c.Noise(0, 0, 0)
			if raw, _ := c.Read(0, 0); raw != clean {
				t.Error("what is stored changed")
			}
		}
	}
}

// TestTurnedIsExact: the noise that a read met is reckoned from the chip's own bytes.
func TestTurnedIsExact(t *testing.T) {
	g := geometries[3] // one spare bit behind each parity
	p, c := newPager(t, g)
	p.Write(0, 0, "chert")
	clean, _ := c.Read(0, 0)
	for seed := range 100 {
		c.Erase(0)
		p.Write(0, 0, "chert")
		c.Noise(seed, g.T, g.Chunk+parities[g.T])
		noisy, _ := c.Read(0, 0) // the first read since the erase
		c.Erase(0)
		p.Write(0, 0, "chert")
		want := 0
		for i := range len(clean) {
			differ := noisy[i] ^ clean[i]
			if (i+1)%(g.Chunk+parities[g.T]) == 0 {
				differ &^= 1
			}
			want += bits.OnesCount8(differ)
		}
		if found := mustRead(t, p, 0, 0); found.State != page.Good || found.Turned != want {
			t.Errorf("seed %d: %d, %d bits turned, not %d", seed, found.State, found.Turned, want)
		}
	}
}

// TestTornWrites: a page whose Write was torn is what the chip made of it.
func TestTornWrites(t *testing.T) {
	g := geometries[1]
	full := "x" + strings.Repeat("\x00", payloadBytes(g)-1)
	for m, want := range []page.Found{{}, {State: page.Bad}, {State: page.Good, Payload: full}} {
		p, c := newPager(t, g)
		c.Cut(1, m)
		if err := p.Write(0, 0, "x"); err != api.ErrPower {
			t.Errorf("the torn Write is %d", err)
		}
		c.On()
		checkFound(t, "a torn page", mustRead(t, p, 0, 0), want)
	}
}

// slowRead: what a page is, by the chapter's words.
func slowRead(g api.Geometry, raw string) page.Found {
	code, _ := bch.New(g.T, g.Chunk)
	step := g.Chunk + parities[g.T]
	most, total, body, decoded := 0, 0, "", true
	for i := range g.Chunks {
		piece, zeros := raw[i*step:(i+1)*step], 0
		for _, b := range []byte(piece) {
			zeros += 8 - bits.OnesCount8(b)
		}
		most = max(most, zeros)
		data, _, n, ok := code.Decode(piece[:g.Chunk], piece[g.Chunk:])
		body, total, decoded = body+data, total+n, decoded && ok
	}
	if most <= g.T {
		return page.Found{}
	}
	if content, ok := crc.Open(body); decoded && ok && content[0] == 0 && content[1] == 0 && content[2] == 0 {
		return page.Found{State: page.Good, Payload: content[3:], Turned: total}
	}
	return page.Found{State: page.Bad}
}

func TestReadOfAnyBytes(t *testing.T) {
	random := rand.New(rand.NewSource(8))
	for _, g := range geometries {
		bases := []string{
			strings.Repeat("\xff", rawBytes(g)), strings.Repeat("\x00", rawBytes(g)),
			rawOf(g, bodyOf(g, "\x00\x00\x00", "x")), rawOf(g, bodyOf(g, "\x00\x01\x00", "x")), anyText(random, rawBytes(g)),
		}
		for _, base := range bases {
			for range 20 {
				var places []int
				for range random.Intn(2*g.T*g.Chunks + 2) {
					places = append(places, random.Intn(8*rawBytes(g)))
				}
				raw := turned(base, places...)
				checkFound(t, "any bytes", laid(t, g, raw), slowRead(g, raw))
			}
		}
	}
}

// TestChipWithOtherPages: New takes a chip of any numbers; a page that is too short has chunks that cannot be decoded.
func TestChipWithOtherPages(t *testing.T) {
	g := geometries[1]
	raw := rawOf(g, bodyOf(g, "\x00\x00\x00", "x"))
	full := "x" + strings.Repeat("\x00", payloadBytes(g)-1)
	for _, size := range []int{1, 16, 127, 128, 131, 132, 133, 200, 263, 265, 300, 2048} {
		c, _ := nand.New(2, 8, size)
		p := pagerOf(t, c, g)
		checkFound(t, "an erased page", mustRead(t, p, 1, 7), page.Found{})
		if err := p.Write(0, 0, "x"); err != api.ErrArg {
			t.Errorf("Write to pages of %d bytes is %d", size, err)
		}
		c.Program(0, 0, (raw + strings.Repeat("\xff", 2048))[:size])
		want := page.Found{State: page.Bad}
		if size > len(raw) {
			want = page.Found{State: page.Good, Payload: full}
		}
		checkFound(t, "a page of another size", mustRead(t, p, 0, 0), want)
		if found, err := p.Read(2, 0); found != (page.Found{}) || err != api.ErrArg {
			t.Errorf("Read of a block that the geometry alone has is %v, %d", found, err)
		}
	}
	larger, _ := nand.New(64, 64, len(raw))
	p := pagerOf(t, larger, g)
	if err := p.Write(63, 63, "x"); err != api.OK {
		t.Errorf("Write to a page that the chip alone has is %d", err)
	}
	checkFound(t, "a page that the chip alone has", mustRead(t, p, 63, 63), page.Found{State: page.Good, Payload: full})
}

func TestNilPager(t *testing.T) {
	var p *page.Pager
	for _, payload := range []string{"", "x", strings.Repeat("x", 5000)} {
		if err := p.Write(0, 0, payload); err != api.ErrArg {
			t.Errorf("Write is %d", err)
		}
	}
	if found, err := p.Read(0, 0); found != (page.Found{}) || err != api.ErrArg {
		t.Errorf("Read is %v, %d", found, err)
	}
}

// TestPagersShareAChip: a pager keeps nothing of the pages.
func TestPagersShareAChip(t *testing.T) {
	g := geometries[1]
	p, c := newPager(t, g)
	q := pagerOf(t, c, g)
	payload := strings.Repeat("s", payloadBytes(g))
	p.Write(3, 0, payload)
	checkFound(t, "the other pager", mustRead(t, q, 3, 0), page.Found{State: page.Good, Payload: payload})
	c.Erase(3)
	checkFound(t, "the first pager", mustRead(t, p, 3, 0), page.Found{})
}

func TestResultsAreNew(t *testing.T) {
	g := geometries[1]
	p, _ := newPager(t, g)
	payload := strings.Repeat("n", payloadBytes(g))
	p.Write(0, 0, payload)
	first, second := mustRead(t, p, 0, 0).Payload, mustRead(t, p, 0, 0).Payload
	a, b := unsafe.StringData(first), unsafe.StringData(second)
	if given := unsafe.StringData(payload); a == given || b == given || a == b {
		t.Error("a result shares memory")
	}
}
