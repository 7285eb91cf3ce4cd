package ops_test

import (
	"math"
	"math/rand"
	"slices"
	"strings"
	"testing"
	"unsafe"

	"chert/api"
	"chert/lz"
	"chert/ops"
)

func checkSpan(t *testing.T, offset, size, first, end int) {
	t.Helper()
	if a, b := ops.Span(offset, size); a != first || b != end {
		t.Errorf("Span(%d, %d) is %d, %d, not %d, %d", offset, size, a, b, first, end)
	}
}

func checkWrite(t *testing.T, number, size, offset int, data string, old []string, want []ops.Change, newSize int, err api.Errno) {
	t.Helper()
	before := slices.Clone(old)
	if changes, n, got := ops.Write(number, size, offset, data, old); !slices.Equal(changes, want) || n != newSize || got != err {
		t.Errorf("Write(%d, %d, %d, %.40q, %.80q) is %v, %d, %d, not %v, %d, %d", number, size, offset, data, old, changes, n, got, want, newSize, err)
	}
	if !slices.Equal(old, before) {
		t.Error("Write changed what was given to it")
	}
}

func checkCut(t *testing.T, number, size, to int, last string, want ...ops.Change) {
	t.Helper()
	if changes := ops.Cut(number, size, to, last); !slices.Equal(changes, want) {
		t.Errorf("Cut(%d, %d, %d, %.80q) is %v, not %v", number, size, to, last, changes, want)
	}
}

func checkRead(t *testing.T, size, offset, n int, pieces []string, want string) {
	t.Helper()
	before := slices.Clone(pieces)
	if text := ops.Read(size, offset, n, pieces); text != want {
		t.Errorf("Read(%d, %d, %d, %.80q) is %.80q, not %.80q", size, offset, n, pieces, text, want)
	}
	if !slices.Equal(pieces, before) {
		t.Error("Read changed what was given to it")
	}
}

// piece: the change of a piece that has these bytes.
func piece(number, k int, data string) ops.Change { return isNow(pieceKey(number, k), lz.Pack(data)) }

func gonePiece(number, k int) ops.Change { return isGone(pieceKey(number, k)) }

func zeros(n int) string { return strings.Repeat("\x00", n) }

type list = []ops.Change

func TestExample(t *testing.T) {
	want := list{piece(3, 0, zeros(62)+"ab"), piece(3, 1, "cd")}
	checkWrite(t, 3, 0, 62, "abcd", nil, want, 66, api.OK)
	checkCut(t, 3, 66, 65, "cd", piece(3, 1, "c"))
	checkRead(t, 66, 63, 9, []string{zeros(62) + "ab", "cd"}, "bcd")
}

func TestSpan(t *testing.T) {
	for _, offset := range []int{0, 1, 62, 63, 64, 65, 127, 128, 4096, 8128, 8191, 8192} {
		for _, size := range []int{1, 2, 63, 64, 65, 128, 129, 256, 8191, 8192} {
			first, end := -1, 0
			for at := offset; at < offset+size; at++ {
				if first < 0 {
					first = at / 64
				}
				end = at/64 + 1
			}
			checkSpan(t, offset, size, first, end)
		}
	}
	for _, wrong := range []int{-1, math.MinInt, 8193, math.MaxInt} {
		checkSpan(t, wrong, 1, 0, 0)
		checkSpan(t, 64, wrong, 0, 0)
		checkSpan(t, wrong, wrong, 0, 0)
		checkSpan(t, wrong, 0, 0, 0)
	}
	checkSpan(t, 64, 0, 0, 0)
}

func TestWrite(t *testing.T) {
	full := strings.Repeat("f", 64)
	checkWrite(t, 2, 0, 0, "a", nil, list{piece(2, 0, "a")}, 1, api.OK)
	checkWrite(t, 2, 9, 0, "a", nil, list{piece(2, 0, "a")}, 9, api.OK)
	checkWrite(t, 2, 9, 8, "ab", nil, list{piece(2, 0, zeros(8)+"ab")}, 10, api.OK)
	checkWrite(t, 2, 9, 1, "x", []string{"abc"}, list{piece(2, 0, "axc")}, 9, api.OK)
	checkWrite(t, 2, 9, 1, "b", []string{"abc"}, nil, 9, api.OK)
	checkWrite(t, 2, 3, 1, "b\x00\x00", []string{"ab"}, nil, 4, api.OK)
	checkWrite(t, 2, 3, 0, "\x00\x00", []string{"ab"}, list{gonePiece(2, 0)}, 3, api.OK)
	checkWrite(t, 2, 3, 0, "\x00\x00", []string{"abc"}, list{piece(2, 0, "\x00\x00c")}, 3, api.OK)
	checkWrite(t, 2, 3, 0, "\x00\x00", []string{"\x00" + zeros(63)}, nil, 3, api.OK)
	checkWrite(t, 2, 0, 64, full, nil, list{piece(2, 1, full)}, 128, api.OK)
	checkWrite(t, 2, 0, 63, full, nil, list{piece(2, 0, zeros(63)+"f"), piece(2, 1, full[1:])}, 127, api.OK)
	checkWrite(t, 2, 300, 64, full+"ab"+full, []string{full, "ab" + full[2:] + "no more", full}, list{piece(2, 2, "ab"+full[2:])}[:0], 300, api.OK)
	checkWrite(t, 2, 300, 1, strings.Repeat("g", 256), []string{"", full, "", "", full, full}, list{piece(2, 0, "\x00"+strings.Repeat("g", 63)), piece(2, 1, strings.Repeat("g", 64)), piece(2, 2, strings.Repeat("g", 64)), piece(2, 3, strings.Repeat("g", 64)), piece(2, 4, "g"+full[1:])}, 300, api.OK)
	checkWrite(t, 2, 128, 70, "xy", []string{full + "beyond the piece"}, list{piece(2, 1, full[:6]+"xy"+full[8:])}, 128, api.OK)
	checkWrite(t, 2, 128, 126, "ff", []string{full + "xx"}, nil, 128, api.OK)
}

func TestWriteOfNothing(t *testing.T) {
	for _, offset := range []int{0, 1, 64, 8191, 8192} {
		checkWrite(t, 2, 5, offset, "", []string{"abc"}, nil, 5, api.OK)
		checkWrite(t, 2, 0, offset, "", nil, nil, 0, api.OK)
	}
}

func TestWriteOfWhatIsWrong(t *testing.T) {
	long := strings.Repeat("a", api.MaxWrite)
	checkWrite(t, 2, 0, 8192-256, long, nil, list{piece(2, 124, long[:64]), piece(2, 125, long[:64]), piece(2, 126, long[:64]), piece(2, 127, long[:64])}, 8192, api.OK)
	for _, offset := range []int{8192 - 255, 8192, 8193, math.MaxInt, math.MaxInt - 255} {
		checkWrite(t, 2, 9, offset, long, nil, nil, 0, api.ErrBig)
		checkWrite(t, 2, 9, offset, long+"a", nil, nil, 0, api.ErrInvalid)
	}
	checkWrite(t, 2, 9, 8192, "a", nil, nil, 0, api.ErrBig)
	checkWrite(t, 2, 9, 8193, "", nil, nil, 0, api.ErrBig)
	checkWrite(t, 2, 9, 8191, "a", nil, list{piece(2, 127, zeros(63)+"a")}, 8192, api.OK)
	for _, offset := range []int{-1, -64, math.MinInt} {
		checkWrite(t, 2, 9, offset, "", nil, nil, 0, api.ErrInvalid)
		checkWrite(t, 2, 9, offset, "abc", nil, nil, 0, api.ErrInvalid)
	}
	checkWrite(t, 2, 9, 0, long+"a", nil, nil, 0, api.ErrInvalid)
	checkWrite(t, 2, math.MaxInt, 0, "a", nil, list{piece(2, 0, "a")}, math.MaxInt, api.OK)
	checkWrite(t, 2, math.MinInt, 0, "a", nil, list{piece(2, 0, "a")}, 1, api.OK)
	ops.Write(-1, 0, 0, "a", nil)
	ops.Write(math.MaxInt, 0, 0, "a", nil)
}

func TestCut(t *testing.T) {
	full := strings.Repeat("f", 64)
	for _, to := range []int{66, 67, 128, math.MaxInt, -1, math.MinInt} {
		checkCut(t, 3, 66, to, "cd")
	}
	checkCut(t, 3, 66, 66, "cdefg")
	checkCut(t, 3, 66, 64, "cd", gonePiece(3, 1))
	checkCut(t, 3, 66, 64, full, gonePiece(3, 1))
	checkCut(t, 3, 66, 0, full, gonePiece(3, 0), gonePiece(3, 1))
	checkCut(t, 3, 64, 0, "", gonePiece(3, 0))
	checkCut(t, 3, 65, 0, "", gonePiece(3, 0), gonePiece(3, 1))
	checkCut(t, 3, 66, 1, "abc", piece(3, 0, "a"), gonePiece(3, 1))
	checkCut(t, 3, 66, 63, full, piece(3, 0, full[1:]), gonePiece(3, 1))
	checkCut(t, 3, 66, 63, full[1:]+"\x00", gonePiece(3, 1))
	checkCut(t, 3, 66, 63, full[1:], gonePiece(3, 1))
	checkCut(t, 3, 64, 63, full+"longer", piece(3, 0, full[1:]))
	checkCut(t, 3, 64, 63, full[1:]+"\x00"+"longer")
	checkCut(t, 3, 40, 2, "\x00\x00a", gonePiece(3, 0))
	checkCut(t, 3, 40, 2, "")
	checkCut(t, 3, 40, 2, "ab\x00\x00")
	checkCut(t, 3, 200, 70, "\x00b", gonePiece(3, 2), gonePiece(3, 3))
	checkCut(t, 3, 200, 70, zeros(6)+"b", gonePiece(3, 1), gonePiece(3, 2), gonePiece(3, 3))
	checkCut(t, 3, 0, 0, "a")
	checkCut(t, 3, -5, 0, "a")
	checkCut(t, 3, math.MinInt, math.MaxInt, "a")
	var all list
	for k := range 128 {
		all = append(all, gonePiece(3, k))
	}
	checkCut(t, 3, 8192, 0, "a", all...)
	checkCut(t, 3, 8129, 64*3, "a", all[3:]...)
	ops.Cut(3, math.MaxInt, 0, "a")
	ops.Cut(math.MinInt, 3, 1, "abc")
}

func TestRead(t *testing.T) {
	full := strings.Repeat("f", 64)
	pieces := []string{"ab", full + "beyond", ""}
	checkRead(t, 200, 0, 3, pieces, "ab\x00")
	checkRead(t, 200, 62, 4, pieces, "\x00\x00ff")
	checkRead(t, 200, 0, 500, pieces, "ab"+zeros(62)+full+zeros(72))
	checkRead(t, 65, 0, 500, pieces, "ab"+zeros(62)+"f")
	checkRead(t, 1, 0, 1, pieces, "a")
	checkRead(t, 200, 199, 1, nil, "\x00")
	checkRead(t, 200, 66, 2, []string{"abcd"}, "cd")
	checkRead(t, 200, 64, 200, []string{full}, full+zeros(72))
	checkRead(t, 200, 63, math.MaxInt, []string{full, "a"}, "fa"+zeros(135))
	checkRead(t, 8192, 8191, 2, []string{full}, "f")
	checkRead(t, 8192, 0, 8192, slices.Repeat([]string{full}, 130), strings.Repeat("f", 8192))
	for _, wrong := range []int{-1, math.MinInt} {
		checkRead(t, 200, wrong, 3, pieces, "")
		checkRead(t, 200, 0, wrong, pieces, "")
		checkRead(t, wrong, 0, 3, pieces, "")
		checkRead(t, wrong, math.MaxInt, math.MaxInt, pieces, "")
		checkRead(t, wrong, 1, math.MaxInt, pieces, "")
	}
	for _, offset := range []int{200, 201, math.MaxInt} {
		checkRead(t, 200, offset, 3, pieces, "")
	}
	checkRead(t, 200, 0, 0, pieces, "")
	checkRead(t, 0, 0, 3, pieces, "")
	checkRead(t, math.MaxInt, 1, 2, pieces, "b\x00")
	ops.Read(math.MaxInt, 0, math.MaxInt, pieces)
	// Beyond MaxFile, Span tells of no pieces.
	checkRead(t, math.MaxInt, 8193, 2, nil, "\x00\x00")
	checkRead(t, 20000, 1, 8193, nil, zeros(8193))
}

// content is a file as its bytes and the pieces that have keys.
type content struct {
	data   string
	pieces map[int]string
}

// old: the bytes of the pieces of a span, some of them with bytes 00 at their ends or behind them.
func (c content) old(random *rand.Rand, first, end int) []string {
	var list []string
	for k := first; k < end; k++ {
		text, _ := lz.Unpack(c.pieces[k], 64)
		switch random.Intn(3) {
		case 0:
			text += zeros(64 - len(text))
		case 1:
			text += zeros(64-len(text)) + "more"
		}
		list = append(list, text)
	}
	for len(list) > 0 && list[len(list)-1] == "" {
		list = list[:len(list)-1]
	}
	return list
}

func (c content) take(changes []ops.Change) {
	for _, change := range changes {
		if change.Gone {
			delete(c.pieces, change.Key.Piece)
		} else {
			c.pieces[change.Key.Piece] = change.Text
		}
	}
}

// checkPieces: has each piece the value that the bytes ask for?
func (c content) checkPieces(t *testing.T) {
	t.Helper()
	for k := range 128 {
		text := ""
		if k*64 < len(c.data) {
			text = strings.TrimRight(c.data[k*64:min(k*64+64, len(c.data))], "\x00")
		}
		value, ok := c.pieces[k]
		if ok != (text != "") || ok && value != lz.Pack(text) {
			t.Errorf("piece %d is %.80q, not of %.80q", k, value, text)
		}
	}
}

func someData(random *rand.Rand) string {
	data := make([]byte, random.Intn(257))
	for i := range data {
		data[i] = "\x00\x00\x00ab"[random.Intn(1+4*random.Intn(2))]
	}
	return string(data)
}

// TestRandomWrites: pieces are what the bytes of a file are, whatever happens to them.
func TestRandomWrites(t *testing.T) {
	random := rand.New(rand.NewSource(5))
	for range 30 {
		c := content{pieces: map[int]string{}}
		most := 100 + random.Intn(8092)
		for range 80 {
			offset := random.Intn(most)
			if random.Intn(3) == 0 {
				c.cut(t, random, min(offset, len(c.data)))
			} else {
				c.write(t, random, offset, someData(random))
			}
			c.checkPieces(t)
			c.read(t, random, random.Intn(most), random.Intn(400))
			if t.Failed() {
				return
			}
		}
	}
}

func (c *content) write(t *testing.T, random *rand.Rand, offset int, data string) {
	t.Helper()
	first, end := ops.Span(offset, len(data))
	changes, size, err := ops.Write(7, len(c.data), offset, data, c.old(random, first, end))
	if offset+len(data) > 8192 {
		if err != api.ErrBig {
			t.Errorf("a write up to %d is %d", offset+len(data), err)
		}
		return
	}
	after := c.data
	if data != "" {
		after += zeros(offset + len(data) - min(len(after), offset+len(data)))
		after = after[:offset] + data + after[offset+len(data):]
	}
	if size != len(after) || err != api.OK {
		t.Errorf("a write makes %d bytes, %d, not %d", size, err, len(after))
	}
	for _, change := range changes {
		if k := change.Key.Piece; change.Key != pieceKey(7, k) || !change.Gone && c.pieces[k] == change.Text {
			t.Errorf("no change: %v", change)
		}
	}
	c.take(changes)
	c.data = after
}

func (c *content) cut(t *testing.T, random *rand.Rand, to int) {
	t.Helper()
	last := ""
	if old := c.old(random, to/64, to/64+1); len(old) > 0 {
		last = old[0]
	}
	changes := ops.Cut(7, len(c.data), to, last)
	for i := 1; i < len(changes); i++ {
		if changes[i].Key.Piece != changes[i-1].Key.Piece+1 || !changes[i].Gone {
			t.Errorf("%v behind %v", changes[i], changes[i-1])
		}
	}
	c.take(changes)
	c.data = c.data[:to]
}

func (c *content) read(t *testing.T, random *rand.Rand, offset, n int) {
	t.Helper()
	want := ""
	if offset < len(c.data) {
		want = c.data[offset:min(offset+n, len(c.data))]
	}
	first, end := ops.Span(offset, len(want))
	checkRead(t, len(c.data), offset, n, c.old(random, first, end), want)
}

func TestReadIsNew(t *testing.T) {
	pieces := []string{strings.Repeat("a", 64)}
	text := ops.Read(64, 0, 64, pieces)
	if unsafe.StringData(text) == unsafe.StringData(pieces[0]) {
		t.Error("Read shares memory with a piece")
	}
}

func TestArgumentsStayAsTheyAre(t *testing.T) {
	old := append(make([]string, 0, 6), "a", "b")
	ops.Write(2, 9, 10, strings.Repeat("x", 200), old)
	ops.Read(500, 10, 300, old)
	if !slices.Equal(old[:6], []string{"a", "b", "", "", "", ""}) {
		t.Errorf("the pieces are %q now", old[:6])
	}
}
