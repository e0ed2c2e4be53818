package field

import (
	"bytes"
	"fmt"
	"math"
	"math/big"
	"slices"
	"strings"
	"testing"

	"usufruct/api"
)

const (
	lowest  = math.MinInt
	highest = math.MaxInt
	top     = 1 << 62
)

// eight are a number's eight bytes as the chapter's words say it: the highest first.
func eight(n uint64) []byte {
	return new(big.Int).SetUint64(n).FillBytes(make([]byte, 8))
}

// numForm is a number's form by the words.
func numForm(n int) []byte {
	switch {
	case n < 0:
		return eight(0)
	case n > top:
		return eight(top)
	}
	return eight(uint64(n))
}

func textForm(s string) []byte {
	return joined(numForm(len(s)), []byte(s))
}

func flagForm(yes bool) []byte {
	if yes {
		return []byte{1}
	}
	return []byte{0}
}

// joined is new memory with one row behind the other.
func joined(rows ...[]byte) []byte {
	return slices.Concat(rows...)
}

// head is a row for a message, cut where it is long.
func head[row string | []byte](b row) row {
	return b[:min(len(b), 24)]
}

// mixer draws numbers by a rule, the same ones each time.
type mixer uint64

func (m *mixer) below(n int) int {
	*m = *m*6364136223846793005 + 1442695040888963407
	return int(uint64(*m)>>33) % n
}

func (m *mixer) bytes(size int) []byte {
	row := make([]byte, size)
	for i := range row {
		row[i] = byte(m.below(256))
	}
	return row
}

// someNums are ordinary numbers, each power of two with its neighbours, and what has no form of its own.
func someNums() []int {
	nums := []int{0, 3, 7, 10, 1000, 123456789, 0x0102030405060708, lowest, lowest + 1, -top - 1, -top, -256, -2, -1, top + 2, highest - 1, highest}
	for bit := range 63 {
		nums = append(nums, 1<<bit-1, 1<<bit, 1<<bit+1)
	}
	return nums
}

// someTexts are texts with nothing in them, of runes, of bytes that are no rune's, and long ones.
func someTexts() []string {
	texts := []string{"", "a", "\x00", "\x00\x00\x00\x00\x00\x00\x00\x01", "saga", "héy", "語", "😀", "\ufffd", "\xff", "\x80", "\xc3", "a\xe8\xaa", "\xed\xa0\x80", "\xff\xfe\x00\x01"}
	for _, size := range []int{7, 8, 9, 254, 255, 256, 257, 65535, 65536, 65537, 1 << 20} {
		draw := mixer(size)
		texts = append(texts, strings.Repeat("x", size), string(draw.bytes(size)))
	}
	return texts
}

// overwrite writes over an answer and over all the memory behind it.
func overwrite(b []byte) {
	b = b[:cap(b)]
	for i := range b {
		b[i] ^= 0x5a
	}
	_ = append(b, 0x5a)
}

// The kinds of calls to a reader.
const (
	askNum = iota
	askText
	askFlag
	askCount
	askEnd
	askKinds
)

// ask is a call to a reader, with its arguments.
type ask struct{ kind, most, least int }

// answer is what a call told, and what Err tells behind it.
type answer struct {
	n   int
	s   string
	yes bool
	at  int
	e   api.Errno
}

// String cuts a text that is long, and tells bytes that are no rune's.
func (a answer) String() string {
	return fmt.Sprintf("{%d %q %v, %d at %d}", a.n, head(a.s), a.yes, a.e, a.at)
}

func (a ask) of(r *Reader) answer {
	var got answer
	switch a.kind {
	case askNum:
		got.n = r.Num()
	case askText:
		got.s = r.Text(a.most)
	case askFlag:
		got.yes = r.Flag()
	case askCount:
		got.n = r.Count(a.most, a.least)
	case askEnd:
		got.yes = r.End()
	}
	got.at, got.e = r.Err()
	return got
}

// words is a reader as the chapter's words say it, over exact numbers.
type words struct {
	b   []byte
	at  int
	bad bool
	was answer
}

func (w *words) left() int { return len(w.b) - w.at }

func (w *words) num() (*big.Int, api.Errno) {
	if w.left() < 8 {
		return nil, api.ErrShort
	}
	n := new(big.Int).SetBytes(w.b[w.at : w.at+8])
	if n.Cmp(big.NewInt(top)) > 0 {
		return nil, api.ErrLarge
	}
	return n, api.OK
}

// told is the error and, without one, how many bytes are taken and what is told.
func (w *words) told(a ask) (e api.Errno, size int, got answer) {
	switch a.kind {
	case askEnd:
		if w.left() > 0 {
			return api.ErrForm, 0, answer{}
		}
		return api.OK, 0, answer{yes: true}
	case askFlag:
		if w.left() < 1 {
			return api.ErrShort, 0, answer{}
		}
		if w.b[w.at] > 1 {
			return api.ErrForm, 0, answer{}
		}
		return api.OK, 1, answer{yes: w.b[w.at] == 1}
	}
	n, e := w.num()
	if e != api.OK {
		return e, 0, answer{}
	}
	if a.kind == askNum {
		return api.OK, 8, answer{n: int(n.Int64())}
	}
	if n.Cmp(big.NewInt(int64(a.most))) > 0 {
		return api.ErrLarge, 0, answer{}
	}
	least := int64(1)
	if a.kind == askCount && a.least > 1 {
		least = int64(a.least)
	}
	if big.NewInt(int64(w.left()-8)).Cmp(new(big.Int).Mul(n, big.NewInt(least))) < 0 {
		return api.ErrShort, 0, answer{}
	}
	if a.kind == askCount {
		return api.OK, 8, answer{n: int(n.Int64())}
	}
	size = 8 + int(n.Int64())
	return api.OK, size, answer{s: string(w.b[w.at+8 : w.at+size])}
}

func (w *words) of(a ask) answer {
	if w.bad {
		return w.was
	}
	e, size, got := w.told(a)
	if e != api.OK {
		w.bad, w.was = true, answer{at: w.at, e: e}
		return w.was
	}
	w.at += size
	return got
}

// check asks a reader of those bytes in that order and holds each answer against the words.
func check(t *testing.T, b []byte, asks []ask) {
	t.Helper()
	r, w := NewReader(b), &words{b: b}
	for i, a := range asks {
		if got, want := a.of(r), w.of(a); got != want {
			t.Fatalf("%d bytes %x: call %d of %+v: %+v, not %+v", len(b), head(b), i, asks, got, want)
		}
	}
}

// want asks once, behind skipped bytes, and wants that answer.
func want(t *testing.T, b []byte, skip int, a ask, told answer) {
	t.Helper()
	r := NewReader(b)
	for range skip {
		r.Flag()
	}
	if got := a.of(r); got != told {
		t.Errorf("%d bytes %x behind %d: %+v: %+v, not %+v", len(b), head(b), skip, a, got, told)
	}
	check(t, b, append(slices.Repeat([]ask{{kind: askFlag}}, skip), a))
}

// P4.1: the zero writer has put nothing.
func TestZeroWriter(t *testing.T) {
	var w Writer
	for range 2 {
		if got := w.Bytes(); len(got) != 0 {
			t.Errorf("the zero Writer's Bytes = %x", got)
		}
	}
	if got := new(Writer).Bytes(); len(got) != 0 {
		t.Errorf("a new Writer's Bytes = %x", got)
	}
}

// P4.1: Num at what is known: both ends, one byte and one more, what has no form of its own.
func TestPutNumKnown(t *testing.T) {
	for _, c := range []struct {
		n    int
		form string
	}{
		{0, "\x00\x00\x00\x00\x00\x00\x00\x00"},
		{1, "\x00\x00\x00\x00\x00\x00\x00\x01"},
		{255, "\x00\x00\x00\x00\x00\x00\x00\xff"},
		{256, "\x00\x00\x00\x00\x00\x00\x01\x00"},
		{0x0102030405060708, "\x01\x02\x03\x04\x05\x06\x07\x08"},
		{1<<62 - 1, "\x3f\xff\xff\xff\xff\xff\xff\xff"},
		{1 << 62, "\x40\x00\x00\x00\x00\x00\x00\x00"},
		{1<<62 + 1, "\x40\x00\x00\x00\x00\x00\x00\x00"},
		{highest, "\x40\x00\x00\x00\x00\x00\x00\x00"},
		{-1, "\x00\x00\x00\x00\x00\x00\x00\x00"},
		{-256, "\x00\x00\x00\x00\x00\x00\x00\x00"},
		{lowest, "\x00\x00\x00\x00\x00\x00\x00\x00"},
	} {
		var w Writer
		w.Num(c.n)
		if got := w.Bytes(); string(got) != c.form {
			t.Errorf("Num(%d) puts %x, not %x", c.n, got, c.form)
		}
	}
}

// P4.1: Num at many numbers, against the words.
func TestPutNum(t *testing.T) {
	for _, n := range someNums() {
		var w Writer
		w.Num(n)
		if got := w.Bytes(); !bytes.Equal(got, numForm(n)) {
			t.Errorf("Num(%d) puts %x, not %x", n, got, numForm(n))
		}
	}
}

// P4.1: Text at what is known, and at many texts against the words.
func TestPutText(t *testing.T) {
	for _, c := range []struct{ s, form string }{
		{"", "\x00\x00\x00\x00\x00\x00\x00\x00"},
		{"a", "\x00\x00\x00\x00\x00\x00\x00\x01a"},
		{"héy", "\x00\x00\x00\x00\x00\x00\x00\x04h\xc3\xa9y"},
		{"\xff\x80", "\x00\x00\x00\x00\x00\x00\x00\x02\xff\x80"},
	} {
		var w Writer
		w.Text(c.s)
		if got := w.Bytes(); string(got) != c.form {
			t.Errorf("Text(%q) puts %x, not %x", c.s, got, c.form)
		}
	}
	for _, s := range someTexts() {
		var w Writer
		w.Text(s)
		if got := w.Bytes(); !bytes.Equal(got, textForm(s)) {
			t.Errorf("Text of %d bytes %x puts %d bytes %x", len(s), head(s), len(got), head(got))
		}
	}
}

// P4.1: Flag at both.
func TestPutFlag(t *testing.T) {
	var yes, no Writer
	yes.Flag(true)
	no.Flag(false)
	if got := yes.Bytes(); string(got) != "\x01" {
		t.Errorf("Flag(true) puts %x", got)
	}
	if got := no.Bytes(); string(got) != "\x00" {
		t.Errorf("Flag(false) puts %x", got)
	}
}

// P4.1: many forms one behind the other; all that was put so far is told behind each.
func TestPutMany(t *testing.T) {
	var w, other Writer
	var all []byte
	put := func(form []byte) {
		t.Helper()
		all = append(all, form...)
		if got := w.Bytes(); !bytes.Equal(got, all) {
			t.Fatalf("behind %x: %d bytes that end with %x", head(form), len(got), got[max(len(got)-24, 0):])
		}
	}
	texts := someTexts()
	for i, n := range someNums() {
		w.Num(n)
		put(numForm(n))
		w.Flag(i%3 == 0)
		put(flagForm(i%3 == 0))
		if s := texts[i%len(texts)]; len(s) < 300 {
			w.Text(s)
			put(textForm(s))
		}
		w.Flag(i%2 == 0)
		put(flagForm(i%2 == 0))
		other.Num(i)
	}
	if got := other.Bytes(); len(got) != 8*len(someNums()) || !bytes.Equal(got[8:16], eight(1)) {
		t.Errorf("another writer's bytes are %d: %x", len(got), head(got))
	}
}

// P4.1 and R4: what Bytes told stays as it was behind further puts, and what a caller does with it changes nothing.
func TestBytesAreNew(t *testing.T) {
	var w Writer
	var all []byte
	var told, copies [][]byte
	for i := range 300 {
		w.Flag(i%2 == 0)
		all = append(all, flagForm(i%2 == 0)...)
		if i%7 == 0 {
			w.Text("saga")
			all = append(all, textForm("saga")...)
		}
		told = append(told, w.Bytes())
		copies = append(copies, bytes.Clone(all))
		overwrite(w.Bytes())
		_ = append(w.Bytes(), "behind"...)
	}
	for i := range told {
		if !bytes.Equal(told[i], copies[i]) {
			t.Fatalf("what was told behind put %d is %x, and was %x", i, head(told[i]), head(copies[i]))
		}
	}
	for _, b := range told {
		overwrite(b)
	}
	if got := w.Bytes(); !bytes.Equal(got, all) {
		t.Errorf("all that was put is %x, and was %x", head(got), head(all))
	}
}

// P4.2: a reader of no bytes, of nil too: each call is short, at 0, and the end is there.
func TestReaderOfNone(t *testing.T) {
	for _, b := range [][]byte{nil, {}, make([]byte, 0, 64), eight(1)[:0]} {
		want(t, b, 0, ask{kind: askNum}, answer{e: api.ErrShort})
		want(t, b, 0, ask{kind: askText, most: 9}, answer{e: api.ErrShort})
		want(t, b, 0, ask{kind: askText, most: -9}, answer{e: api.ErrShort})
		want(t, b, 0, ask{kind: askFlag}, answer{e: api.ErrShort})
		want(t, b, 0, ask{kind: askCount, most: 9, least: 9}, answer{e: api.ErrShort})
		want(t, b, 0, ask{kind: askCount, most: -9, least: -9}, answer{e: api.ErrShort})
		want(t, b, 0, ask{kind: askEnd}, answer{yes: true})
	}
}

// P4.2 and R4: bytes that the caller changes later are read as they were; they aren't changed, nor what lies behind them read.
func TestReaderKeepsValues(t *testing.T) {
	whole := joined(eight(7), textForm("saga"), []byte{1}, eight(0), []byte{1, 1, 1})
	was := bytes.Clone(whole)
	b := whole[:29]
	r := NewReader(b)
	if n := r.Num(); n != 7 {
		t.Errorf("Num = %d", n)
	}
	overwrite(whole)
	now := bytes.Clone(whole)
	s := r.Text(4)
	if s != "saga" {
		t.Errorf("Text = %q", s)
	}
	if !r.Flag() || r.Count(0, 1) != 0 || !r.End() {
		at, e := r.Err()
		t.Errorf("the bytes that were handed in are kept: %d at %d", e, at)
	}
	if !bytes.Equal(whole, now) || s != "saga" {
		t.Errorf("the bytes are %x, and were %x", whole, now)
	}
	r, again := NewReader(was), NewReader(was)
	r.Num()
	if again.Flag() || again.Flag() || r.Text(4) != "saga" {
		t.Error("two readers of the same bytes are one")
	}
}

// P4.2: Num at none to seven bytes left, at the beginning and behind others, also where more lie behind in memory.
func TestTakeNumShort(t *testing.T) {
	for _, fill := range []byte{0, 1, 0x40, 0x7f, 0xff} {
		rest := bytes.Repeat([]byte{fill}, 8)
		for size := range 8 {
			want(t, rest[:size], 0, ask{kind: askNum}, answer{e: api.ErrShort})
			want(t, bytes.Clone(rest[:size]), 0, ask{kind: askNum}, answer{e: api.ErrShort})
			for _, skip := range []int{1, 7, 8, 9, 30} {
				want(t, joined(make([]byte, skip), rest[:size]), skip, ask{kind: askNum}, answer{at: skip, e: api.ErrShort})
			}
		}
	}
}

// P4.2: Num at eight bytes: each number up to 2^62 as it is, each one above is too large.
func TestTakeNum(t *testing.T) {
	num := ask{kind: askNum}
	want(t, eight(0), 0, num, answer{})
	want(t, eight(1), 0, num, answer{n: 1})
	want(t, []byte("\x01\x02\x03\x04\x05\x06\x07\x08"), 0, num, answer{n: 0x0102030405060708})
	want(t, []byte("\x40\x00\x00\x00\x00\x00\x00\x00"), 0, num, answer{n: top})
	want(t, []byte("\x40\x00\x00\x00\x00\x00\x00\x01"), 0, num, answer{e: api.ErrLarge})
	want(t, joined([]byte{1, 0}, eight(math.MaxUint64)), 2, num, answer{at: 2, e: api.ErrLarge})
	for _, n := range []uint64{1<<62 + 2, 1<<62 + 1<<32, 1<<63 - 1, 1 << 63, 1<<63 + 1, 1<<63 + 1<<62, math.MaxUint64 - 1, math.MaxUint64} {
		want(t, eight(n), 0, num, answer{e: api.ErrLarge})
		want(t, joined(eight(n), []byte{9}), 0, num, answer{e: api.ErrLarge})
	}
	for _, n := range someNums() {
		if n >= 0 && n <= top {
			want(t, eight(uint64(n)), 0, num, answer{n: n})
			want(t, joined([]byte{0, 1, 1}, eight(uint64(n)), []byte{0xff}), 3, num, answer{n: n})
		}
	}
}

// P4.2: Text at each error of Num, whatever most is.
func TestTakeTextNumErrors(t *testing.T) {
	for _, most := range []int{lowest, -1, 0, 1, 9, top, top + 1, highest} {
		text := ask{kind: askText, most: most}
		for size := range 8 {
			want(t, make([]byte, size), 0, text, answer{e: api.ErrShort})
			want(t, bytes.Repeat([]byte{0xff}, size), 0, text, answer{e: api.ErrShort})
		}
		for _, n := range []uint64{1<<62 + 1, 1<<63 - 1, 1 << 63, math.MaxUint64} {
			want(t, eight(n), 0, text, answer{e: api.ErrLarge})
			want(t, joined([]byte{1}, eight(n), []byte("abc")), 1, text, answer{at: 1, e: api.ErrLarge})
		}
	}
}

// P4.2: Text at as many bytes as most and one more, at most below 0 and at 0.
func TestTakeTextMost(t *testing.T) {
	for _, s := range someTexts() {
		for _, most := range []int{len(s), len(s) + 1, top, highest} {
			want(t, textForm(s), 0, ask{kind: askText, most: most}, answer{s: s})
			want(t, joined([]byte{1, 0}, textForm(s), []byte("more")), 2, ask{kind: askText, most: most}, answer{s: s})
		}
		for _, most := range []int{len(s) - 1, -1, -2, lowest} {
			want(t, textForm(s), 0, ask{kind: askText, most: most}, answer{e: api.ErrLarge})
			want(t, joined([]byte{1, 0}, textForm(s), []byte("more")), 2, ask{kind: askText, most: most}, answer{at: 2, e: api.ErrLarge})
		}
	}
	want(t, textForm(""), 0, ask{kind: askText, most: 0}, answer{})
	want(t, textForm("a"), 0, ask{kind: askText, most: 0}, answer{e: api.ErrLarge})
	want(t, textForm(""), 0, ask{kind: askText, most: -1}, answer{e: api.ErrLarge})
}

// P4.2: Text whose bytes aren't all there, by one and by more; too large comes first.
func TestTakeTextShort(t *testing.T) {
	for _, s := range someTexts() {
		if s == "" {
			continue
		}
		form := textForm(s)
		for _, size := range []int{8, len(form) - 1} {
			want(t, form[:size], 0, ask{kind: askText, most: len(s)}, answer{e: api.ErrShort})
			want(t, joined([]byte{0}, form[:size]), 1, ask{kind: askText, most: highest}, answer{at: 1, e: api.ErrShort})
			want(t, form[:size], 0, ask{kind: askText, most: len(s) - 1}, answer{e: api.ErrLarge})
		}
	}
	for _, n := range []uint64{4, 1 << 31, 1 << 32, 1<<62 - 8, 1<<62 - 1, 1 << 62} {
		want(t, joined(eight(n), []byte("abc")), 0, ask{kind: askText, most: highest}, answer{e: api.ErrShort})
		want(t, joined(eight(n), []byte("abc")), 0, ask{kind: askText, most: int(n)}, answer{e: api.ErrShort})
		want(t, joined(eight(n), []byte("abc")), 0, ask{kind: askText, most: int(n) - 1}, answer{e: api.ErrLarge})
	}
}

// P4.2: Flag at no byte and at each one, the chapter's example among them.
func TestTakeFlag(t *testing.T) {
	flag := ask{kind: askFlag}
	want(t, []byte{0}, 0, flag, answer{})
	want(t, []byte{1}, 0, flag, answer{yes: true})
	want(t, []byte{2}, 0, flag, answer{e: api.ErrForm})
	want(t, []byte{0xff}, 0, flag, answer{e: api.ErrForm})
	want(t, []byte{0, 1}, 2, flag, answer{at: 2, e: api.ErrShort})
	for b := 2; b < 256; b++ {
		want(t, []byte{byte(b)}, 0, flag, answer{e: api.ErrForm})
		want(t, []byte{1, 0, byte(b), 1}, 2, flag, answer{at: 2, e: api.ErrForm})
	}
}

// P4.2: Count at each error of Num, whatever most and least are.
func TestTakeCountNumErrors(t *testing.T) {
	for _, most := range []int{lowest, -1, 0, 1, top, highest} {
		for _, least := range []int{lowest, -1, 0, 1, 2, highest} {
			count := ask{askCount, most, least}
			for size := range 8 {
				want(t, make([]byte, size), 0, count, answer{e: api.ErrShort})
				want(t, bytes.Repeat([]byte{0xff}, size), 0, count, answer{e: api.ErrShort})
			}
			for _, n := range []uint64{1<<62 + 1, 1<<63 - 1, 1 << 63, math.MaxUint64} {
				want(t, eight(n), 0, count, answer{e: api.ErrLarge})
				want(t, joined([]byte{1}, eight(n), []byte("abc")), 1, count, answer{at: 1, e: api.ErrLarge})
			}
		}
	}
}

// P4.2: Count at the number that most is and one more; too large comes ahead of short.
func TestTakeCountMost(t *testing.T) {
	for _, n := range []int{0, 1, 2, 5, 32, 255, 256} {
		all := joined([]byte{1}, eight(uint64(n)), make([]byte, n))
		for _, most := range []int{n, n + 1, top, highest} {
			want(t, all, 1, ask{askCount, most, 1}, answer{n: n})
		}
		for _, most := range []int{n - 1, -1, -2, lowest} {
			want(t, all, 1, ask{askCount, most, 1}, answer{at: 1, e: api.ErrLarge})
			want(t, all[:9], 1, ask{askCount, most, highest}, answer{at: 1, e: api.ErrLarge})
		}
	}
	want(t, eight(top), 0, ask{askCount, top - 1, 1}, answer{e: api.ErrLarge})
	want(t, eight(top), 0, ask{askCount, top, 1}, answer{e: api.ErrShort})
}

// P4.2: Count at just as many bytes left as are asked, one more and one fewer, at least below 1, at 1 and above.
func TestTakeCountLeast(t *testing.T) {
	for _, n := range []int{0, 1, 2, 3, 32, 257} {
		for _, least := range []int{lowest, -2, -1, 0, 1, 2, 3, 7, 8, 9, 96, 257} {
			asked := n * max(least, 1)
			all := joined([]byte{0, 1}, eight(uint64(n)), make([]byte, asked+1))
			want(t, all, 2, ask{askCount, n, least}, answer{n: n})
			want(t, all[:10+asked], 2, ask{askCount, n, least}, answer{n: n})
			if asked > 0 {
				want(t, all[:10+asked-1], 2, ask{askCount, n, least}, answer{at: 2, e: api.ErrShort})
				want(t, bytes.Clone(all[:10]), 2, ask{askCount, n, least}, answer{at: 2, e: api.ErrShort})
			}
		}
	}
}

// P4.2 and R7: Count at numbers whose product with least runs over, to 0 and to what is small among them.
func TestTakeCountBeyond(t *testing.T) {
	nums := []uint64{2, 3, 1 << 31, 1 << 32, 1<<32 + 1, 1 << 61, 1<<62 - 1, 1 << 62}
	leasts := []int{1 << 31, 1 << 32, 1<<32 + 1, 1 << 61, top - 1, top, top + 1, highest - 1, highest, 2, 3, 4, 5, 8}
	for _, n := range nums {
		for _, least := range leasts {
			if n < 4 && least < 9 {
				continue
			}
			for _, behind := range []int{0, 1, 20} {
				all := joined(eight(n), make([]byte, behind))
				want(t, all, 0, ask{askCount, highest, least}, answer{e: api.ErrShort})
			}
		}
	}
	for _, least := range leasts {
		want(t, eight(0), 0, ask{askCount, 0, least}, answer{})
		want(t, joined(eight(0), []byte("x")), 0, ask{askCount, highest, least}, answer{})
	}
	want(t, joined(eight(1), make([]byte, 9)), 0, ask{askCount, 1, highest}, answer{e: api.ErrShort})
}

// P4.2: Count takes the number alone: what is counted is still there.
func TestCountTakesTheNumber(t *testing.T) {
	r := NewReader(joined(eight(2), textForm("ab"), textForm("")))
	if n := r.Count(2, 8); n != 2 {
		t.Errorf("Count = %d", n)
	}
	if a, b := r.Text(2), r.Text(2); a != "ab" || b != "" || !r.End() {
		t.Errorf("%q and %q", a, b)
	}
}

// failing is a call that fails at those bytes, and its error.
type failing struct {
	name  string
	bytes []byte
	ask   ask
	e     api.Errno
}

func failures() []failing {
	return []failing{
		{"Num short", make([]byte, 7), ask{kind: askNum}, api.ErrShort},
		{"Num large", eight(1 << 63), ask{kind: askNum}, api.ErrLarge},
		{"Text no number", make([]byte, 3), ask{kind: askText, most: 9}, api.ErrShort},
		{"Text large number", eight(math.MaxUint64), ask{kind: askText, most: highest}, api.ErrLarge},
		{"Text large", joined(textForm("ab"), []byte{1}), ask{kind: askText, most: 1}, api.ErrLarge},
		{"Text short", joined(eight(9), make([]byte, 8)), ask{kind: askText, most: 9}, api.ErrShort},
		{"Flag short", nil, ask{kind: askFlag}, api.ErrShort},
		{"Flag form", []byte{2, 1, 0}, ask{kind: askFlag}, api.ErrForm},
		{"Count no number", make([]byte, 5), ask{askCount, 9, 1}, api.ErrShort},
		{"Count large number", eight(1<<62 + 1), ask{askCount, highest, 1}, api.ErrLarge},
		{"Count large", joined(eight(2), make([]byte, 8)), ask{askCount, 1, 1}, api.ErrLarge},
		{"Count short", joined(eight(3), make([]byte, 8)), ask{askCount, 3, 3}, api.ErrShort},
		{"End form", make([]byte, 24), ask{kind: askEnd}, api.ErrForm},
		{"End form of one", []byte{1}, ask{kind: askEnd}, api.ErrForm},
	}
}

// anyAsks are calls of each kind that go well at many bytes, and such that fail.
func anyAsks() []ask {
	return []ask{
		{kind: askFlag}, {kind: askNum}, {kind: askText, most: highest}, {askCount, highest, 1}, {kind: askEnd},
		{kind: askText, most: -1}, {askCount, -1, highest}, {askCount, 0, lowest}, {kind: askText}, {kind: askFlag}, {kind: askEnd}, {kind: askNum},
	}
}

// P4.2 and P4.3: behind each error, at the beginning and behind other forms, nothing is taken any more: zero values, and the first error stays with its place.
func TestFirstErrorStays(t *testing.T) {
	for _, f := range failures() {
		for _, ahead := range [][]byte{nil, {1}, {0, 1, 1}, make([]byte, 17)} {
			r := NewReader(joined(ahead, f.bytes))
			for range ahead {
				r.Flag()
			}
			if at, e := r.Err(); at != 0 || e != api.OK {
				t.Errorf("%s: ahead of it: %d at %d", f.name, e, at)
			}
			stays := answer{at: len(ahead), e: f.e}
			for i, a := range append([]ask{f.ask}, anyAsks()...) {
				for range 2 {
					if got := a.of(r); got != stays {
						t.Errorf("%s behind %d bytes: call %d %+v: %+v, not %+v", f.name, len(ahead), i, a, got, stays)
					}
				}
			}
		}
	}
}

// P4.3: Err without an error, behind calls of each kind that go well.
func TestErrWithout(t *testing.T) {
	r := NewReader(joined(eight(5), textForm("saga"), []byte{0, 1}, eight(0)))
	well := func(what string, good bool) {
		t.Helper()
		for range 2 {
			if at, e := r.Err(); !good || at != 0 || e != api.OK {
				t.Errorf("%s: %v, and %d at %d", what, good, e, at)
			}
		}
	}
	well("new", true)
	well("Num", r.Num() == 5)
	well("Text", r.Text(4) == "saga")
	well("Flag", !r.Flag())
	well("Flag", r.Flag())
	well("Count", r.Count(0, 1) == 0)
	well("End", r.End())
	well("End again", r.End())
}

// P4.3: End at nothing left, at something left, and behind an error where nothing is left.
func TestEnd(t *testing.T) {
	end := ask{kind: askEnd}
	want(t, nil, 0, end, answer{yes: true})
	want(t, []byte{0, 1, 1}, 3, end, answer{yes: true})
	for left := 1; left < 20; left++ {
		want(t, make([]byte, left), 0, end, answer{e: api.ErrForm})
		want(t, make([]byte, left+5), 5, end, answer{at: 5, e: api.ErrForm})
	}
	want(t, []byte{0xff}, 0, end, answer{e: api.ErrForm})
	for size := range 3 {
		r := NewReader(make([]byte, size))
		for range size + 1 {
			r.Flag()
		}
		if got := end.of(r); got != (answer{at: size, e: api.ErrShort}) {
			t.Errorf("behind an error, with nothing left: %+v", got)
		}
	}
}

// P4.3: an end that was there is no error, and the one that comes behind it is the first.
func TestBehindTheEnd(t *testing.T) {
	for _, a := range anyAsks()[:4] {
		r := NewReader([]byte{1})
		r.Flag()
		if !r.End() {
			t.Fatal("nothing is left, and it isn't the end")
		}
		if got := a.of(r); got != (answer{at: 1, e: api.ErrShort}) {
			t.Errorf("%+v behind the end: %+v", a, got)
		}
		if r.End() {
			t.Errorf("%+v behind the end: the end again", a)
		}
	}
}

// put is a form that is put, with what it is taken back by.
type put struct {
	n    int
	s    string
	yes  bool
	kind int
}

func (p put) to(w *Writer) {
	switch p.kind {
	case askText:
		w.Text(p.s)
	case askFlag:
		w.Flag(p.yes)
	default:
		w.Num(p.n)
	}
}

func (p put) form() []byte {
	switch p.kind {
	case askText:
		return textForm(p.s)
	case askFlag:
		return flagForm(p.yes)
	}
	return numForm(p.n)
}

// somePuts draws forms in any order.
func somePuts(draw *mixer, size int) []put {
	nums, texts := someNums(), someTexts()[:21]
	puts := make([]put, size)
	for i := range puts {
		switch draw.below(4) {
		case 0:
			puts[i] = put{kind: askText, s: texts[draw.below(len(texts))]}
		case 1:
			puts[i] = put{kind: askFlag, yes: draw.below(2) == 1}
		default:
			puts[i] = put{kind: askNum, n: nums[draw.below(len(nums))]}
		}
	}
	return puts
}

// wantBack takes a put form and wants it as it was.
func wantBack(t *testing.T, r *Reader, i int, p put) {
	t.Helper()
	good := false
	switch p.kind {
	case askText:
		good = r.Text(len(p.s)) == p.s
	case askFlag:
		good = r.Flag() == p.yes
	default:
		good = r.Num() == min(max(p.n, 0), top)
	}
	if at, e := r.Err(); !good || at != 0 || e != api.OK {
		t.Fatalf("form %d (%d, %d bytes, %v) is another one; %d at %d", i, p.n, len(p.s), p.yes, e, at)
	}
}

// P4.4: what was put, in any order, is taken as it was, and End tells that all was.
func TestPutAndTaken(t *testing.T) {
	draw := mixer(1)
	for round := range 500 {
		var w Writer
		var all []byte
		puts := somePuts(&draw, round%40)
		for _, p := range puts {
			p.to(&w)
			all = append(all, p.form()...)
		}
		if !bytes.Equal(w.Bytes(), all) {
			t.Fatalf("round %d: %x is put, not %x", round, head(w.Bytes()), head(all))
		}
		r := NewReader(w.Bytes())
		for i, p := range puts {
			wantBack(t, r, i, p)
		}
		if !r.End() {
			at, e := r.Err()
			t.Fatalf("round %d: something is left: %d at %d", round, e, at)
		}
	}
}

// P4.4: each number, each text and each flag by itself; long ones too.
func TestEachPutAndTaken(t *testing.T) {
	puts := []put{{kind: askFlag}, {kind: askFlag, yes: true}}
	for _, n := range someNums() {
		puts = append(puts, put{kind: askNum, n: n})
	}
	for _, s := range someTexts() {
		puts = append(puts, put{kind: askText, s: s})
	}
	var whole Writer
	for i, p := range puts {
		var w Writer
		p.to(&w)
		p.to(&whole)
		r := NewReader(w.Bytes())
		wantBack(t, r, i, p)
		if !r.End() {
			t.Errorf("form %d: something is left", i)
		}
	}
	r := NewReader(whole.Bytes())
	for i, p := range puts {
		wantBack(t, r, i, p)
	}
	if !r.End() {
		t.Error("all of them: something is left")
	}
}

// P4.4 and P4.2: of what was put and cut off at each place, the forms ahead of the cut are taken, and the one that is cut is short, at its beginning.
func TestCutOff(t *testing.T) {
	draw := mixer(2)
	for range 30 {
		puts := somePuts(&draw, 6)
		var all []byte
		for _, p := range puts {
			all = append(all, p.form()...)
		}
		for size := range len(all) {
			r, at := NewReader(all[:size]), 0
			for i, p := range puts {
				if at+len(p.form()) > size {
					a := ask{kind: p.kind, most: highest}
					if got := a.of(r); got != (answer{at: at, e: api.ErrShort}) {
						t.Fatalf("cut at %d in form %d from %d: %+v", size, i, at, got)
					}
					break
				}
				wantBack(t, r, i, p)
				at += len(p.form())
			}
		}
	}
}

// anyBytes draws bytes of which many are forms: numbers that are small, at the edge and beyond, flags, and anything.
func anyBytes(draw *mixer) []byte {
	var b []byte
	for range draw.below(8) {
		switch draw.below(6) {
		case 0:
			b = append(b, eight(uint64(draw.below(12)))...)
		case 1:
			b = append(b, eight(1<<62-1+uint64(draw.below(3)))...)
		case 2:
			b = append(b, byte(draw.below(3)))
		case 3:
			b = append(b, textForm(string(draw.bytes(draw.below(20))))...)
		case 4:
			b = append(b, draw.bytes(draw.below(12))...)
		default:
			b = append(b, make([]byte, draw.below(12))...)
		}
	}
	return b
}

// P4.2, P4.3 and P1: any calls, at any bytes, with any arguments, against the words; and the same again.
func TestAnyCallsAtAnyBytes(t *testing.T) {
	draw := mixer(3)
	limits := []int{lowest, -1, 0, 1, 2, 3, 5, 8, 11, 20, 1 << 32, top - 1, top, top + 1, highest}
	for range 60000 {
		b := anyBytes(&draw)
		asks := make([]ask, draw.below(9))
		for i := range asks {
			asks[i] = ask{draw.below(askKinds), limits[draw.below(len(limits))], limits[draw.below(len(limits))]}
			if asks[i].kind == askEnd && draw.below(3) > 0 {
				asks[i].kind = askFlag
			}
		}
		check(t, b, asks)
		check(t, b, asks)
	}
}

// P1: each call at each short row of edge bytes.
func TestShortRows(t *testing.T) {
	edges := []byte{0, 1, 2, 0x40, 0xff}
	rows := [][]byte{nil}
	for range 3 {
		for _, row := range slices.Clone(rows) {
			for _, b := range edges {
				rows = append(rows, joined(row, []byte{b}))
			}
		}
	}
	for _, row := range rows {
		for _, ahead := range [][]byte{nil, make([]byte, 5), make([]byte, 7), eight(0), eight(2)} {
			b := joined(ahead, row)
			for _, first := range anyAsks() {
				check(t, b, append([]ask{first}, anyAsks()...))
			}
		}
	}
}
