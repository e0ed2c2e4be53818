package sum

import (
	"bytes"
	"hash/crc32"
	"slices"
	"testing"
)

// byWords is the sum as the chapter's words say it, bit by bit.
func byWords(b []byte) uint32 {
	n := uint32(0xffffffff)
	for _, next := range b {
		n ^= uint32(next)
		for range 8 {
			if n%2 == 1 {
				n = n/2 ^ 0xedb88320
			} else {
				n = n / 2
			}
		}
	}
	return n ^ 0xffffffff
}

// fourOf are the four bytes whose sum that is: each sum is that of four, and the shifts are gone through backwards.
func fourOf(sum uint32) []byte {
	n := ^sum
	for range 32 {
		if n >= 1<<31 {
			n = (n^0xedb88320)<<1 | 1
		} else {
			n <<= 1
		}
	}
	return lowestFirst(^n)
}

func lowestFirst(n uint32) []byte {
	return []byte{byte(n), byte(n >> 8), byte(n >> 16), byte(n >> 24)}
}

func highestFirst(n uint32) []byte {
	return []byte{byte(n >> 24), byte(n >> 16), byte(n >> 8), byte(n)}
}

// joined is new memory with one row behind the other.
func joined(rows ...[]byte) []byte {
	return slices.Concat(rows...)
}

// mixed is a row of that many bytes, of all kinds, by a rule.
func mixed(size, seed int) []byte {
	row := make([]byte, size)
	n := uint64(seed)*2862933555777941757 + 3037000493
	for i := range row {
		n = n*6364136223846793005 + 1442695040888963407
		row[i] = byte(n >> 56)
	}
	return row
}

// manyRows are rows of each short length and of lengths beside powers of two: of one byte over and over, rising, and mixed.
func manyRows() [][]byte {
	rows := [][]byte{nil, []byte("123456789"), []byte("saga"), []byte("\xff\xff\xff\xff"), []byte("é語😀")}
	sizes := []int{63, 64, 65, 127, 128, 255, 256, 257, 1000, 4095, 4096, 65535, 65536, 65537}
	for size := range 34 {
		sizes = append(sizes, size)
	}
	for _, size := range sizes {
		rising := make([]byte, size)
		for i := range rising {
			rising[i] = byte(i)
		}
		rows = append(rows, rising, mixed(size, 1), mixed(size, 2))
		for _, same := range []byte{0, 1, 0x80, 0xff} {
			rows = append(rows, bytes.Repeat([]byte{same}, size))
		}
	}
	return rows
}

// someSums are edges of the sums, each single bit, and mixed ones.
func someSums() []uint32 {
	sums := []uint32{0, 0xffffffff, 0xfffffffe, 0x7fffffff, 0x12345678, 0xedb88320, 0xcbf43926, 0xdebb20e3, 0x2144df1c}
	for bit := range 32 {
		sums = append(sums, 1<<bit)
	}
	for i := range 8 {
		sums = append(sums, byWords(mixed(5, i)))
	}
	return sums
}

// head is a row for a message, cut where it is long.
func head(b []byte) []byte {
	return b[:min(len(b), 12)]
}

// P3.1: Of at what is known, the chapter's nine bytes and no byte among it.
func TestOfKnown(t *testing.T) {
	for _, c := range []struct {
		row  []byte
		want uint32
	}{
		{nil, 0}, {[]byte{}, 0},
		{[]byte{0x31, 0x32, 0x33, 0x34, 0x35, 0x36, 0x37, 0x38, 0x39}, 0xcbf43926},
		{[]byte{0}, 0xd202ef8d}, {[]byte{0xff}, 0xff000000},
		{[]byte("a"), 0xe8b7be43}, {[]byte("abc"), 0x352441c2},
		{[]byte("The quick brown fox jumps over the lazy dog"), 0x414fa339},
		{make([]byte, 4), 0x2144df1c}, {make([]byte, 32), 0x190a55ad},
		{bytes.Repeat([]byte{0xff}, 4), 0xffffffff}, {bytes.Repeat([]byte{0xff}, 32), 0xff6cab0b},
	} {
		if got := Of(c.row); got != c.want {
			t.Errorf("Of(%x) = %08x, not %08x", c.row, got, c.want)
		}
	}
}

// P3.1: Of at each single byte, and at each two of them.
func TestOfEachByte(t *testing.T) {
	for a := range 256 {
		one := []byte{byte(a)}
		if got, want := Of(one), byWords(one); got != want {
			t.Errorf("Of(%x) = %08x, not %08x", one, got, want)
		}
		for b := range 256 {
			two := []byte{byte(a), byte(b)}
			if got, want := Of(two), byWords(two); got != want {
				t.Errorf("Of(%x) = %08x, not %08x", two, got, want)
			}
		}
	}
}

// P3.1: Of at many rows, against the words, which are held against another's program as well.
func TestOfManyRows(t *testing.T) {
	for _, row := range manyRows() {
		want := byWords(row)
		if other := crc32.ChecksumIEEE(row); other != want {
			t.Fatalf("the words' sum of %d bytes %x is %08x, not %08x", len(row), head(row), want, other)
		}
		if got := Of(row); got != want {
			t.Errorf("Of of %d bytes %x = %08x, not %08x", len(row), head(row), got, want)
		}
	}
}

// P3.1: More at any sum and any bytes: each sum is that of some bytes, behind which the others stand.
func TestMore(t *testing.T) {
	for _, sum := range someSums() {
		ahead := fourOf(sum)
		if got := byWords(ahead); got != sum {
			t.Fatalf("%x are not the bytes of %08x but of %08x", ahead, sum, got)
		}
		if More(sum, nil) != sum || More(sum, []byte{}) != sum {
			t.Errorf("More(%08x, none) = %08x", sum, More(sum, nil))
		}
		for _, row := range manyRows() {
			if len(row) > 4096 {
				continue
			}
			if got, want := More(sum, row), byWords(joined(ahead, row)); got != want {
				t.Errorf("More(%08x, %d bytes %x) = %08x, not %08x", sum, len(row), head(row), got, want)
			}
		}
	}
}

// P3.1: More at each single byte behind each other one, and Of as More behind none.
func TestMoreEachByte(t *testing.T) {
	for a := range 256 {
		one := []byte{byte(a)}
		if got := More(0, one); got != byWords(one) {
			t.Errorf("More(0, %x) = %08x", one, got)
		}
		for b := range 256 {
			if got, want := More(byWords(one), []byte{byte(b)}), byWords([]byte{byte(a), byte(b)}); got != want {
				t.Errorf("More of %x behind %x = %08x, not %08x", b, a, got, want)
			}
		}
	}
}

// P3.1: Fits at the bytes' own sum and at others: each bit of it turned, all of them, its bytes the other way, any.
func TestFits(t *testing.T) {
	for _, row := range manyRows() {
		if len(row) > 300 {
			continue
		}
		own := byWords(row)
		if !Fits(row, own) {
			t.Errorf("Fits(%d bytes %x, %08x) = false", len(row), head(row), own)
		}
		others := append(someSums(), ^own, own+1, own-1, byWords(joined(row, []byte{0})), sumOfFour(highestFirst(own)))
		for bit := range 32 {
			others = append(others, own^1<<bit)
		}
		for _, sum := range others {
			if got := Fits(row, sum); got != (sum == own) {
				t.Errorf("Fits(%d bytes %x, %08x) = %v", len(row), head(row), sum, got)
			}
		}
	}
}

func sumOfFour(b []byte) uint32 {
	return uint32(b[0]) | uint32(b[1])<<8 | uint32(b[2])<<16 | uint32(b[3])<<24
}

// P3.2: Seal at what is known.
func TestSealKnown(t *testing.T) {
	for _, c := range []struct{ row, sealed string }{
		{"", "\x00\x00\x00\x00"},
		{"a", "a\x43\xbe\xb7\xe8"},
		{"123456789", "123456789\x26\x39\xf4\xcb"},
		{"\x00", "\x00\x8d\xef\x02\xd2"},
		{"\xff", "\xff\x00\x00\x00\xff"},
		{"\xff\xff\xff\xff", "\xff\xff\xff\xff\xff\xff\xff\xff"},
		{"\x00\x00\x00\x00", "\x00\x00\x00\x00\x1c\xdf\x44\x21"},
	} {
		if got := Seal([]byte(c.row)); string(got) != c.sealed {
			t.Errorf("Seal(%x) = %x, not %x", c.row, got, c.sealed)
		}
	}
	if got := Seal(nil); !bytes.Equal(got, make([]byte, 4)) {
		t.Errorf("Seal(nil) = %x", got)
	}
}

// P3.2: Seal at many rows: the bytes as they were, their sum behind them, the lowest first; what is sealed comes out again.
func TestSealAndOpen(t *testing.T) {
	for _, row := range manyRows() {
		sealed := Seal(row)
		if want := joined(row, lowestFirst(byWords(row))); !bytes.Equal(sealed, want) {
			t.Errorf("Seal of %d bytes %x ends with %x", len(row), head(row), sealed[max(len(sealed)-4, 0):])
		}
		if got, ok := Open(sealed); !ok || !bytes.Equal(got, row) {
			t.Errorf("Open of the sealed %d bytes %x = %x, %v", len(row), head(row), head(got), ok)
		}
		if got, ok := Open(Seal(sealed)); !ok || !bytes.Equal(got, sealed) {
			t.Errorf("Open of the twice sealed %d bytes %x = %x, %v", len(row), head(row), head(got), ok)
		}
	}
}

// wantShut asks that there is nothing to open.
func wantShut(t *testing.T, what string, b []byte) {
	t.Helper()
	if got, ok := Open(b); ok || len(got) != 0 {
		t.Errorf("%s: Open(%d bytes %x) = %x, %v", what, len(b), head(b), head(got), ok)
	}
}

// P3.2: Open at none to three bytes, also where what lies behind them in memory would make it right.
func TestOpenShort(t *testing.T) {
	wantShut(t, "nil", nil)
	edges := []byte{0, 1, 0x7f, 0x80, 0xfe, 0xff}
	for size := range 4 {
		wantShut(t, "right behind its end", make([]byte, 4)[:size])
		wantShut(t, "right behind its end", Seal([]byte("abc"))[:size])
		for _, same := range edges {
			wantShut(t, "short", bytes.Repeat([]byte{same}, size))
		}
	}
	for a := range 256 {
		wantShut(t, "one byte", []byte{byte(a)})
		for b := range 256 {
			wantShut(t, "two bytes", []byte{byte(a), byte(b)})
		}
	}
	for _, a := range edges {
		for _, b := range edges {
			for _, c := range edges {
				wantShut(t, "three bytes", []byte{a, b, c})
			}
		}
	}
}

// P3.2: Open at four bytes, of which 0 over and over alone is sealed: nothing is in it.
func TestOpenFour(t *testing.T) {
	if got, ok := Open(make([]byte, 4)); !ok || len(got) != 0 {
		t.Errorf("Open(00000000) = %x, %v", got, ok)
	}
	for _, sum := range someSums() {
		if sum != 0 {
			wantShut(t, "four bytes", lowestFirst(sum))
			wantShut(t, "four bytes", highestFirst(sum))
		}
	}
}

// sealedRows are rows to seal and to spoil: none, one byte, some.
func sealedRows() [][]byte {
	return [][]byte{
		nil, {0}, {0xff}, []byte("a"), []byte("ab"), []byte("123456789"), make([]byte, 3), make([]byte, 9),
		bytes.Repeat([]byte{0xff}, 4), bytes.Repeat([]byte{0xff}, 8), mixed(33, 3), mixed(200, 4),
	}
}

// P3.2: Open at what was sealed and had one byte turned, at each place and in each way.
func TestOpenTurned(t *testing.T) {
	for _, row := range sealedRows() {
		sealed := Seal(row)
		for at := range len(row) + 4 {
			for turn := 1; turn < 256; turn++ {
				turned := bytes.Clone(sealed)
				turned[at] ^= byte(turn)
				wantShut(t, "turned", turned)
			}
		}
	}
}

// checkOpen holds Open at any bytes against the words.
func checkOpen(t *testing.T, what string, b []byte) {
	t.Helper()
	size := len(b) - 4
	if size < 0 || byWords(b[:size]) != sumOfFour(b[size:]) {
		wantShut(t, what, b)
		return
	}
	if got, ok := Open(b); !ok || !bytes.Equal(got, b[:size]) {
		t.Errorf("%s: Open(%d bytes %x) = %x, %v", what, len(b), head(b), head(got), ok)
	}
}

// P3.2: Open at what was sealed and had bytes cut off or put behind it, or its sum's bytes the other way.
func TestOpenCutOrGrown(t *testing.T) {
	for _, row := range [][]byte{{7}, []byte("a"), []byte("ab"), []byte("123456789"), mixed(33, 3), mixed(200, 4)} {
		sealed := Seal(row)
		for size := range len(row) + 4 {
			wantShut(t, "cut off", sealed[:size])
			wantShut(t, "cut off", bytes.Clone(sealed[:size]))
		}
		for b := range 256 {
			wantShut(t, "put behind", joined(sealed, []byte{byte(b)}))
		}
		for _, more := range []int{2, 3, 4, 5, 100} {
			wantShut(t, "put behind", joined(sealed, make([]byte, more)))
			wantShut(t, "put behind", joined(sealed, mixed(more, 5)))
		}
		wantShut(t, "the highest first", joined(row, highestFirst(byWords(row))))
	}
}

// P3.2: Open at any bytes; and at 0 or ff over and over, of which four and eight are sealed, cut off and put behind.
func TestOpenAny(t *testing.T) {
	for _, row := range manyRows() {
		checkOpen(t, "any", row)
	}
	for _, row := range sealedRows() {
		sealed := Seal(row)
		for size := range len(sealed) {
			checkOpen(t, "cut off", sealed[:size])
		}
		for b := range 256 {
			checkOpen(t, "put behind", joined(sealed, []byte{byte(b)}))
		}
	}
	checkOpen(t, "four of 0", make([]byte, 4))
	checkOpen(t, "eight of ff", bytes.Repeat([]byte{0xff}, 8))
}

// P3.2 and R4: Seal and Open leave what they were given as it was, also where there is room behind its end, and answer new memory.
func TestMemory(t *testing.T) {
	whole := mixed(40, 6)
	was := bytes.Clone(whole)
	for size := range 37 {
		room := whole[:size]
		sealed := Seal(room)
		if !bytes.Equal(whole, was) {
			t.Fatalf("Seal of %d bytes with room behind them left %x", size, whole)
		}
		again := Seal(room)
		overwrite(sealed)
		if !bytes.Equal(whole, was) || !bytes.Equal(again, joined(was[:size], lowestFirst(byWords(was[:size])))) {
			t.Fatalf("what Seal of %d bytes answers is not its own", size)
		}
	}
	whole = joined(Seal([]byte("saga")), []byte("behind"))
	was = bytes.Clone(whole)
	opened, _ := Open(whole[:8])
	again, _ := Open(whole[:8])
	overwrite(opened)
	if !bytes.Equal(whole, was) || string(again) != "saga" {
		t.Errorf("what Open answers is not its own: %x, %q", whole, again)
	}
	none := make([]byte, 4, 8)
	opened, _ = Open(none)
	overwrite(opened)
	if !bytes.Equal(none[:8], make([]byte, 8)) {
		t.Errorf("what Open of nothing answers is not its own: %x", none[:8])
	}
	if got, ok := Open(whole[:8]); !ok || string(got) != "saga" {
		t.Errorf("Open again = %q, %v", got, ok)
	}
}

// overwrite writes over an answer and over all the memory behind it.
func overwrite(b []byte) {
	b = b[:cap(b)]
	for i := range b {
		b[i] ^= 0x5a
	}
	_ = append(b, 0x5a)
}

// R4 and R8: the sums leave the bytes as they were, read none behind their end, and are the same each time.
func TestSumsOnlyRead(t *testing.T) {
	whole := mixed(64, 7)
	was := bytes.Clone(whole)
	for size := range 64 {
		part, alone := whole[:size], bytes.Clone(whole[:size])
		for range 2 {
			if Of(part) != byWords(alone) || More(7, part) != More(7, alone) || !Fits(part, byWords(alone)) {
				t.Errorf("the sum of %d bytes is another one with bytes behind them", size)
			}
		}
	}
	if !bytes.Equal(whole, was) {
		t.Errorf("the bytes are %x, and were %x", whole, was)
	}
}

// inPieces is the sum by More, piece by piece, with none among them.
func inPieces(row []byte, size int) uint32 {
	sum := Of(nil)
	for piece := range slices.Chunk(row, size) {
		sum = More(More(sum, piece), nil)
	}
	return sum
}

// P3.3: one row in pieces of one size, of each size.
func TestPiecesOfEachSize(t *testing.T) {
	for _, row := range [][]byte{nil, {0}, make([]byte, 50), bytes.Repeat([]byte{0xff}, 50), mixed(300, 8), mixed(513, 9)} {
		want := byWords(row)
		for size := 1; size <= len(row)+1; size++ {
			if got := inPieces(row, size); got != want {
				t.Errorf("%d bytes %x by pieces of %d: %08x, not %08x", len(row), head(row), size, got, want)
			}
		}
	}
}

// P3.3: one row in three pieces, at each two places, so that each of them may be none.
func TestThreePieces(t *testing.T) {
	row := mixed(60, 10)
	want := byWords(row)
	for from := range len(row) + 1 {
		for to := from; to <= len(row); to++ {
			if got := More(More(Of(row[:from]), row[from:to]), row[to:]); got != want {
				t.Errorf("cut at %d and %d: %08x, not %08x", from, to, got, want)
			}
		}
	}
}

// P3.3: one row in pieces of rising sizes, and byte by byte where it is long.
func TestPiecesOfALongRow(t *testing.T) {
	row := mixed(1<<20+3, 11)
	want := byWords(row)
	sum := uint32(0)
	for at, size := 0, 0; at < len(row); size++ {
		end := min(at+size, len(row))
		sum = More(sum, row[at:end])
		at = end
	}
	if sum != want || inPieces(row[:4096], 1) != byWords(row[:4096]) {
		t.Errorf("by pieces: %08x, not %08x", sum, want)
	}
}

// P3.3: one byte turned, at each place and in each way: another sum.
func TestOneByteTurned(t *testing.T) {
	for _, row := range [][]byte{{0}, {0xff}, []byte("123456789"), make([]byte, 40), bytes.Repeat([]byte{0xff}, 40), mixed(100, 12)} {
		sum, turned := Of(row), bytes.Clone(row)
		for at := range row {
			for turn := 1; turn < 256; turn++ {
				turned[at] = row[at] ^ byte(turn)
				if Of(turned) == sum || Fits(turned, sum) || More(5, turned) == More(5, row) {
					t.Errorf("%x for %x at %d of %d bytes has the same sum", turned[at], row[at], at, len(row))
				}
			}
			turned[at] = row[at]
		}
	}
}

// P3.3: one byte turned in a long row, at its ends and between.
func TestOneByteTurnedInALongRow(t *testing.T) {
	row := mixed(65536, 13)
	sum := Of(row)
	for _, at := range []int{0, 1, 255, 256, 32768, 65534, 65535} {
		for _, turn := range []byte{1, 0x80, 0xff} {
			row[at] ^= turn
			if Of(row) == sum {
				t.Errorf("turned at %d by %x: the same sum", at, turn)
			}
			row[at] ^= turn
		}
	}
}

// P1: long rows of each kind end without a panic.
func TestLongRows(t *testing.T) {
	for _, same := range []byte{0, 'a', 0xff} {
		row := bytes.Repeat([]byte{same}, 1<<22)
		want := crc32.ChecksumIEEE(row)
		if got := Of(row); got != want {
			t.Errorf("Of of many %x = %08x, not %08x", same, got, want)
		}
		if got, ok := Open(Seal(row)); !ok || !bytes.Equal(got, row) {
			t.Errorf("Open of many sealed %x = %v", same, ok)
		}
		wantShut(t, "many", row)
	}
}
