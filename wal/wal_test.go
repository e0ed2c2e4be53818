package wal

import (
	"bytes"
	"fmt"
	"maps"
	"math"
	"slices"
	"strconv"
	"strings"
	"testing"

	"usufruct/api"
	"usufruct/record"
	"usufruct/store"
)

const (
	lowest  = math.MinInt
	highest = math.MaxInt
	top     = 1 << 30 // the greatest number
	widest  = 1 << 20 // the greatest size
	room    = 1 << 20 // bytes of a test's store
	all     = 1 << 20 // kept of what isn't safe: all of it
	bare    = 13      // bytes of an empty payload's record
)

// mixer draws numbers by a rule, the same ones each time.
type mixer uint64

func (m *mixer) below(n int) int {
	*m = *m*6364136223846793005 + 1442695040888963407
	return int(uint64(*m)>>33) % n
}

// drawn is one of several.
func drawn[T any](m *mixer, l []T) T {
	return l[m.below(len(l))]
}

// text is a payload of so many bytes.
func (m *mixer) text(size int) string {
	b := make([]byte, size)
	for i := range b {
		b[i] = byte(m.below(256))
	}
	return string(b)
}

// head is a text for a message, cut where it is long.
func head(s string) string {
	return s[:min(len(s), 24)]
}

// heads are payloads for a message.
func heads(l []string) string {
	told := strconv.Itoa(len(l)) + " payloads:"
	for _, s := range l[:min(len(l), 12)] {
		told += fmt.Sprintf(" %q", head(s))
	}
	return told
}

// rec is records of payloads, one behind the other.
func rec(payloads ...string) string {
	row := ""
	for _, p := range payloads {
		form, e := record.Put([]byte(p))
		if e != api.OK {
			panic(e)
		}
		row += string(form)
	}
	return row
}

// segment is the name of the segment of a number, in the words.
func segment(n int) string {
	return "s" + strconv.Itoa(n)
}

// numberOf is a segment's number, in the words: a name is the one of a number just if that number's is written like it.
func numberOf(name string) int {
	n, err := strconv.Atoi(strings.TrimPrefix(name, "s"))
	if err != nil || n < 1 || n > top || segment(n) != name {
		return 0
	}
	return n
}

// disk is files by their names.
type disk map[string]string

// safe is a store with those files, all of which is safe.
func (d disk) safe(t *testing.T) *store.Store {
	t.Helper()
	s := d.loose(t)
	for name := range d {
		if e := s.Sync(name); e != api.OK {
			t.Fatal(e)
		}
	}
	return s
}

// loose is a store with those files, nothing of which is safe.
func (d disk) loose(t *testing.T) *store.Store {
	t.Helper()
	s := store.New(room)
	for name, text := range d {
		if e := s.Append(name, []byte(text)); e != api.OK {
			t.Fatal(e)
		}
	}
	return s
}

// diskOf is what is on a store.
func diskOf(s *store.Store) disk {
	d := disk{}
	for _, name := range s.Names() {
		b, _ := s.Read(name)
		d[name] = string(b)
	}
	return d
}

// segments are the numbers of a disk's segments, rising.
func (d disk) segments() []int {
	var l []int
	for name := range d {
		if n := numberOf(name); n > 0 {
			l = append(l, n)
		}
	}
	slices.Sort(l)
	return l
}

// bytes is how many bytes a disk's segments have.
func (d disk) bytes() int {
	size := 0
	for _, n := range d.segments() {
		size += len(d[segment(n)])
	}
	return size
}

// found is what an opening finds: what is on the disk then, the payloads, and the number at which it is written.
type found struct {
	left     disk
	payloads []string
	last     int
}

// opened is what is found in the words: from first on, or, where first is 0, from the least one on.
func (d disk) opened(first int) found {
	if first == 0 {
		first = slices.Min(append(d.segments(), top))
		if len(d.segments()) == 0 {
			first = 1
		}
	}
	f := found{left: maps.Clone(d), last: first}
	maps.DeleteFunc(f.left, func(name, _ string) bool { return numberOf(name) > 0 })
	for n := first; ; n++ {
		text, there := d[segment(n)]
		if !there || n > top {
			return f
		}
		l, whole, e := record.All([]byte(text))
		f.payloads = append(f.payloads, texts(l)...)
		f.left[segment(n)], f.last = text[:whole], n
		if e != api.OK {
			return f
		}
	}
}

func texts(l [][]byte) []string {
	var out []string
	for _, b := range l {
		out = append(out, string(b))
	}
	return out
}

// reopen opens as told: at first, or, where that is 0, from the least one on.
func reopen(s *store.Store, size, first int) (*Log, []string, api.Errno) {
	var l *Log
	var p [][]byte
	var e api.Errno
	if first == 0 {
		l, p, e = Open(s, size)
	} else {
		l, p, e = OpenAt(s, size, first)
	}
	return l, texts(p), e
}

// wantFound opens, and wants just that.
func wantFound(t *testing.T, what string, s *store.Store, first int, want found) *Log {
	t.Helper()
	l, payloads, e := reopen(s, 30, first)
	if e != api.OK || l == nil {
		t.Fatalf("%s, from %d: %v, %d", what, first, l, e)
	}
	if !slices.Equal(payloads, want.payloads) {
		t.Fatalf("%s, from %d: %s, not %s", what, first, heads(payloads), heads(want.payloads))
	}
	if got := diskOf(s); !maps.Equal(got, want.left) {
		t.Fatalf("%s, from %d: %q is left, not %q", what, first, got, want.left)
	}
	if l.Last() != want.last || l.Bytes() != want.left.bytes() {
		t.Fatalf("%s, from %d: last %d, bytes %d, not %d, %d", what, first, l.Last(), l.Bytes(), want.last, want.left.bytes())
	}
	return l
}

// refuses wants an opening to be refused, with nothing beside the error.
func refuses(t *testing.T, s *store.Store, size, first int, want api.Errno) {
	t.Helper()
	if l, p, e := reopen(s, size, first); l != nil || len(p) != 0 || e != want {
		t.Errorf("size %d, from %d: %v, %s, %d, not %d", size, first, l, heads(p), e, want)
	}
}

// checkOpen opens a disk as told and holds what is found against the words: once, again, behind a crash that keeps nothing, and with the power going at each deed of the opening.
func checkOpen(t *testing.T, what string, d disk, first int) {
	t.Helper()
	want := d.opened(first)
	s := d.safe(t)
	wantFound(t, what, s, first, want)
	wantFound(t, what+", again", s, first, want)
	s.Crash()
	s.Boot(nil)
	wantFound(t, what+", behind a crash", s, first, want)
	for n := 1; ; n++ {
		s := d.safe(t)
		s.Fuse(n)
		if _, _, e := reopen(s, 30, first); e == api.OK {
			return
		}
		if !s.Down() {
			t.Fatalf("%s: refused with the power", what)
		}
		refuses(t, s, 30, first, api.ErrDown)
		s.Boot(nil)
		wantFound(t, fmt.Sprint(what, ", with the power gone at deed ", n), s, first, want)
	}
}

// P8.1: the names of numbers, and the numbers of names.
func TestName(t *testing.T) {
	for _, c := range []struct {
		n    int
		name string
	}{
		{1, "s1"}, {2, "s2"}, {9, "s9"}, {10, "s10"}, {11, "s11"}, {99, "s99"}, {100, "s100"}, {65536, "s65536"}, {999999999, "s999999999"}, {1000000000, "s1000000000"},
		{top - 1, "s1073741823"}, {top, "s1073741824"},
	} {
		if got := Name(c.n); got != c.name {
			t.Errorf("Name(%d) = %q, not %q", c.n, got, c.name)
		}
		if got := Number(c.name); got != c.n {
			t.Errorf("Number(%q) = %d, not %d", c.name, got, c.n)
		}
	}
	for _, n := range []int{0, -1, -9, -top, lowest, lowest + 1, top + 1, top + 2, 1 << 31, 1 << 32, 1<<32 + 1, highest - 1, highest} {
		if got := Name(n); got != "" {
			t.Errorf("Name(%d) = %q", n, got)
		}
	}
}

// P8.1: each number's name has that number.
func TestNameAndNumber(t *testing.T) {
	m := mixer(1)
	for i := range 300000 {
		n := i + 1
		if i%2 == 1 {
			n = 1 + m.below(top)
		}
		if name := Name(n); name != segment(n) || Number(name) != n {
			t.Fatalf("%d: %q, %d", n, name, Number(name))
		}
	}
}

// P8.1: names that are none's.
func TestNumberOfNone(t *testing.T) {
	for _, name := range []string{
		"", "s", "S", "S1", "c1", "t1", "1", "12", "1s", "ss1", "s1s", "s1 ", " s1", "s 1", "s1\n", "\ns1", "s1\x00", "s\x001", "\x00", "s1a", "sa", "s1x2", "s0x1", "s1e3", "s1_0", "s1.0", "s-", "s_1", "s/", "s:", "s1/", "s1:",
		"s0", "s00", "s01", "s010", "s0001", "s00000000000001", "s-1", "s+1", "s-0", "s+0", "s--1", "s1-", "s1+2",
		"s\u0661", "s\u06f1", "s1\u0660", "s\u0967", "s\uff11", "s1\uff10", "s\u00b2", "s1\u00b9", "s\u2460", "s\u4e00", "s\U0001d7cf", "s1\U0001d7ce", "\u017f1", "\uff531", "\u04551",
		"\xff", "\xff1", "s\xff", "s1\xff", "s\xff1", "s1\xff2", "s\xb1", "s\xc0\xb1", "s\xed\xa0\x80", "s1\xed\xa0\x80", "s\ufffd", "s1\ufffd", "\ufffd1", "\xf31", "\xc1\xb31", "s1\xc2",
		"s1073741825", "s1073741826", "s1073741830", "s1073741900", "s1083741824", "s1173741824", "s2000000000", "s2073741824", "s2147483648", "s4294967296", "s4294967297", "s9999999999", "s10000000000", "s10737418240", "s10737418241",
		"s9223372036854775807", "s9223372036854775808", "s9223372036854775809", "s18446744073709551615", "s18446744073709551616", "s18446744073709551617", "s18446744074783293440", "s340282366920938463463374607431768211457",
		"s" + strings.Repeat("1", 100), "s" + strings.Repeat("9", 100000), "s" + strings.Repeat("0", 1000), "s" + strings.Repeat("0", 1000) + "1", "s1" + strings.Repeat("0", 100000), strings.Repeat("s", 1000),
	} {
		if got := Number(name); got != 0 {
			t.Errorf("Number(%q) = %d", head(name), got)
		}
	}
}

// P8.1: Number of short texts of edge bytes, all of them, and of drawn ones, against the words.
func TestNumberOfTexts(t *testing.T) {
	bits := []string{"s", "0", "1", "9", "/", ":", "-", "+", " ", "S", "\x00", "\xff", "\u0661", "\ufffd"}
	row := []string{""}
	for range 4 {
		var next []string
		for _, name := range row {
			if got := Number(name); got != numberOf(name) {
				t.Fatalf("Number(%q) = %d, not %d", name, got, numberOf(name))
			}
			for _, bit := range bits {
				next = append(next, name+bit)
			}
		}
		row = next
	}
	m := mixer(2)
	for range 300000 {
		name := "s"
		for range 1 + m.below(12) {
			name += drawn(&m, []string{"0", "1", "2", "3", "4", "7", "9", "9", "1", strconv.Itoa(m.below(top))})
		}
		if m.below(4) == 0 {
			at := m.below(len(name) + 1)
			name = name[:at] + drawn(&m, bits) + name[at:]
		}
		if got := Number(name); got != numberOf(name) {
			t.Fatalf("Number(%q) = %d, not %d", name, got, numberOf(name))
		}
	}
}

// P8.1: a nil store, sizes and firsts outside: ErrArg, with the power there, gone, and without a store.
func TestOpenArg(t *testing.T) {
	gone := disk{"s1": rec("a")}.safe(t)
	gone.Crash()
	there := disk{"s1": rec("a"), "s2": rec("b") + "x"}.safe(t)
	was := diskOf(there)
	for _, size := range []int{lowest, -widest, -1, 0, widest + 1, 1 << 32, 1<<32 + 1, highest} {
		for _, s := range []*store.Store{nil, there, gone} {
			refuses(t, s, size, 0, api.ErrArg)
			for _, first := range []int{lowest, -1, 1, 2, 3, top, top + 1, highest} {
				refuses(t, s, size, first, api.ErrArg)
			}
		}
	}
	for _, size := range []int{1, 2, 30, widest} {
		refuses(t, nil, size, 0, api.ErrArg)
		refuses(t, nil, size, 1, api.ErrArg)
		refuses(t, gone, size, 0, api.ErrDown)
		refuses(t, gone, size, 1, api.ErrDown)
		refuses(t, gone, size, top, api.ErrDown)
		for _, first := range []int{lowest, -top, -1, top + 1, 1 << 32, 1<<32 + 1, highest} {
			for _, s := range []*store.Store{nil, there, gone} {
				refuses(t, s, size, first, api.ErrArg)
			}
		}
		if l, p, e := OpenAt(there, size, 0); l != nil || len(p) != 0 || e != api.ErrArg {
			t.Errorf("from 0: %v, %d, %d", l, len(p), e)
		}
		if l, p, e := OpenAt(gone, size, 0); l != nil || len(p) != 0 || e != api.ErrArg {
			t.Errorf("from 0: %v, %d, %d", l, len(p), e)
		}
	}
	if !maps.Equal(diskOf(there), was) {
		t.Error("a refused opening left something")
	}
	gone.Boot(nil)
	if got := diskOf(gone); !maps.Equal(got, disk{"s1": rec("a")}) {
		t.Errorf("a refused opening left %q", got)
	}
}

// P8.1: the least and the greatest size and first.
func TestOpenEdges(t *testing.T) {
	for _, size := range []int{1, 2, widest - 1, widest} {
		for _, first := range []int{0, 1, 2, top - 1, top} {
			s := store.New(room)
			l, p, e := reopen(s, size, first)
			if l == nil || len(p) != 0 || e != api.OK {
				t.Fatalf("size %d, from %d: %v, %d, %d", size, first, l, len(p), e)
			}
			if l.Last() != max(first, 1) || l.Bytes() != 0 || len(s.Names()) != 0 {
				t.Errorf("size %d, from %d: %d, %d, %q", size, first, l.Last(), l.Bytes(), s.Names())
			}
			if e := l.Append([]byte("a")); e != api.OK {
				t.Error(e)
			}
			if got := diskOf(s); !maps.Equal(got, disk{segment(max(first, 1)): rec("a")}) {
				t.Errorf("size %d, from %d: %q", size, first, got)
			}
		}
	}
}

// others are files that are no segments.
func others() disk {
	d := disk{}
	for i, name := range []string{"a", "s", "S1", "s0", "s01", "s007", "s1a", "s-1", "s_1", "ss1", "c1", "t2", "s1073741825", "s99999999999", "s18446744073709551617", "s\u0661", "s1\uff10", "s\ufffd"} {
		d[name] = []string{"", "abc", rec("x"), "Z" + rec("y")}[i%4]
	}
	return d
}

// with is a disk and more files.
func (d disk) with(more disk) disk {
	sum := maps.Clone(d)
	maps.Copy(sum, more)
	return sum
}

// P8.1: stores without segments: a log begins with number 1, or first; other files stay.
func TestOpenWithout(t *testing.T) {
	for _, first := range []int{0, 1, 2, 7, top} {
		checkOpen(t, "nothing", disk{}, first)
		checkOpen(t, "other files", others(), first)
	}
}

// P8.1: segments that follow one another, from any number on, by numbers and not by names; other files stay; from each first on.
func TestOpenFollowing(t *testing.T) {
	for _, from := range []int{1, 2, 8, 9, 98, 99, 998, 65535, 999999998, top - 4, top - 3} {
		d := disk{}
		for i := range 4 {
			d[segment(from+i)] = rec([]string{"first", "", "third"}[:i]...) + rec(strconv.Itoa(from+i))
		}
		for _, more := range []disk{nil, others()} {
			d := d.with(more)
			if got := d.opened(0); len(got.payloads) != 10 || got.last != from+3 {
				t.Fatalf("%v", got)
			}
			checkOpen(t, "following", d, 0)
			for first := max(from-2, 1); first <= min(from+6, top); first++ {
				checkOpen(t, "following", d, first)
			}
			checkOpen(t, "following", d, 1)
			checkOpen(t, "following", d, top)
		}
	}
}

// P8.1: segments of no bytes, alone and among others, are whole.
func TestOpenEmpty(t *testing.T) {
	for _, d := range []disk{
		{"s1": ""}, {"s7": ""}, {"s1": "", "s2": "", "s3": ""}, {"s1": rec("a"), "s2": ""}, {"s1": rec("a"), "s2": "", "s3": rec("b")}, {"s9": "", "s10": rec("a")},
	} {
		for first := range 12 {
			checkOpen(t, "empty", d, first)
		}
	}
}

// P8.1: a number that isn't there between others: those behind it go, and other files stay.
func TestOpenGap(t *testing.T) {
	for _, numbers := range [][]int{
		{1, 3}, {1, 3, 4, 5}, {1, 2, 4}, {1, 2, 4, 5}, {1, 2, 4, 6, 8}, {2, 4}, {3, 4, 6, 7}, {1, top}, {1, 2, top - 1, top}, {8, 9, 11}, {9, 11}, {9, 10, 100}, {1, 10, 100}, {1, 10, 11}, {2, 10}, {2, 3, 20, 30}, {5, 50},
	} {
		d := disk{}
		for _, n := range numbers {
			d[segment(n)] = rec(strconv.Itoa(n), "and more")
		}
		for _, first := range []int{0, 1, 2, 3, 4, 5, 6, 7, 8, 9, 10, 11, 12, 100, top - 1, top} {
			checkOpen(t, "a gap", d, first)
			checkOpen(t, "a gap", d.with(others()), first)
		}
	}
}

// spoilt are rows of bytes that aren't whole, with two payloads in the whole part at most.
func spoilt() []string {
	row := rec("first", "", "third")
	var l []string
	for cut := 1; cut < len(row); cut++ {
		if _, whole, _ := record.All([]byte(row[:cut])); whole != cut {
			l = append(l, row[:cut])
		}
	}
	for at := range len(row) {
		b := []byte(row)
		b[at] ^= 0x10
		l = append(l, string(b))
	}
	return append(l, "x", "x"+row, row[:18]+"x"+row[18:], row[:18]+"Z"+row[18:], "Z", "Z\x00\x00\x00\x00", strings.Repeat("\x00", 50), strings.Repeat("Z", 50))
}

// P8.1: one that is torn, or ends too early: first, in the midst, last, and alone; it is cut, all behind it go, and other files stay.
func TestOpenTorn(t *testing.T) {
	for _, text := range spoilt() {
		for at := 9; at <= 12; at++ {
			d := disk{}
			for n := 9; n <= 12; n++ {
				d[segment(n)] = rec(strconv.Itoa(n))
			}
			d[segment(at)] = text
			checkOpen(t, "torn", d, 0)
			for first := 8; first <= 13; first++ {
				checkOpen(t, "torn", d, first)
			}
			checkOpen(t, "torn", d.with(others()), 0)
			delete(d, "s11")
			checkOpen(t, "torn and a gap", d, 0)
			d["s12"] = text[1:]
			checkOpen(t, "torn twice", d, 0)
		}
		checkOpen(t, "torn and alone", disk{"s1": text}, 0)
		checkOpen(t, "torn and alone", disk{"s1": text}, 1)
	}
}

// P8.1: segments below first aren't read: what is torn there does no harm.
func TestOpenAtBelowTorn(t *testing.T) {
	d := disk{"s1": "x", "s2": rec("b") + "Z", "s3": rec("c"), "s4": rec("d")}
	for first := 1; first <= 6; first++ {
		checkOpen(t, "torn below", d, first)
		checkOpen(t, "torn below", d.with(others()), first)
	}
	if got := d.opened(3); !slices.Equal(got.payloads, []string{"c", "d"}) || got.last != 4 {
		t.Errorf("%v", got)
	}
}

// P8.1: what is cut off a torn one leaves it safe: a crash that keeps nothing leaves its whole part, even of no bytes.
func TestOpenMakesSafe(t *testing.T) {
	for _, text := range spoilt() {
		d := disk{"s4": text}
		s := d.loose(t)
		want := d.opened(0)
		wantFound(t, "unsafe", s, 0, want)
		s.Crash()
		s.Boot(nil)
		wantFound(t, "unsafe, behind a crash", s, 0, want)
	}
}

// P8.1: an opening of what is whole, and follows one another, is no deed, and makes nothing safe.
func TestOpenNoDeed(t *testing.T) {
	for _, d := range []disk{{}, others(), {"s1": rec("a")}, {"s3": rec("a", "b"), "s4": "", "s5": rec("c")}} {
		s := d.loose(t)
		s.Fuse(1)
		want := d.opened(0)
		wantFound(t, "with a fuse", s, 0, want)
		s.Fuse(0)
		s.Crash()
		s.Boot(nil)
		if got := s.Names(); len(got) != 0 {
			t.Errorf("%q is safe", got)
		}
	}
}

// P8.1: all disks of up to four segments, each there, whole, torn, short or not there, at each first.
func TestOpenAll(t *testing.T) {
	texts := []string{"", rec("a"), rec("b", "cc"), rec("d") + "x", rec("e", "f")[:20], "Z"}
	for pick := range 7 * 7 * 7 * 7 {
		d := disk{"other": "x"}
		for n := range 4 {
			if kind := pick % 7; kind > 0 {
				d[segment(9+n)] = texts[kind-1]
			}
			pick /= 7
		}
		for _, first := range []int{0, 8, 9, 10, 11, 12, 13} {
			checkOpen(t, "all", d, first)
		}
	}
}

// P8.1: a store of as many segments as it may have files.
func TestOpenMany(t *testing.T) {
	d := disk{}
	for n := 1; n <= 256; n++ {
		d[segment(n)] = rec(strconv.Itoa(n))
	}
	checkOpen(t, "many", d, 0)
	if got := d.opened(0); len(got.payloads) != 256 || got.payloads[9] != "10" || got.last != 256 {
		t.Errorf("%v", got)
	}
	checkOpen(t, "many", d, 250)
	delete(d, "s3")
	d["s99"] += "x"
	for _, first := range []int{0, 3, 98, 256, 257} {
		s := d.safe(t)
		wantFound(t, "many and a gap", s, first, d.opened(first))
	}
}

// P8.1: a log is opened wherever one of another size was.
func TestOpenSizes(t *testing.T) {
	s := store.New(room)
	for i, size := range []int{widest, 1, 30, 14, 2, widest} {
		l, p, e := Open(s, size)
		if e != api.OK || len(p) != i {
			t.Fatalf("size %d: %d payloads, %d", size, len(p), e)
		}
		l.Append([]byte{byte(i)})
	}
	if got := diskOf(s).segments(); !slices.Equal(got, []int{1, 2, 3, 4}) {
		t.Errorf("%v", got)
	}
}

// P8.1 and R4: payloads are new memory, each its own, and the list too.
func TestOpenMemory(t *testing.T) {
	d := disk{"s1": rec("first", "", "third"), "s2": rec("fourth", "fifth") + "x"}
	s := d.safe(t)
	want := d.opened(0)
	for i := range want.payloads {
		_, p, _ := Open(s, 30)
		b := p[i][:cap(p[i])]
		for at := range b {
			b[at] ^= 0x5a
		}
		_ = append(p[i], "more"...)
		for j := range p {
			if j != i && string(p[j]) != want.payloads[j] {
				t.Errorf("payload %d changed with payload %d", j, i)
			}
		}
		clear(p)
		wantFound(t, "again", s, 0, want)
	}
}

// model is a log in the words: its segments that are there, from the least number on, each with its payloads, and what else is in the store.
type model struct {
	size, capacity int
	least          int // the number of the first of them
	rows           [][]string
	last           int
	others         disk
}

// disk is what is in the store.
func (w *model) disk() disk {
	d := maps.Clone(w.others)
	if d == nil {
		d = disk{}
	}
	for i, row := range w.rows {
		d[segment(w.least+i)] = rec(row...)
	}
	return d
}

// there tells whether the last segment is there.
func (w *model) there() bool {
	return len(w.rows) > 0 && w.last == w.least+len(w.rows)-1
}

// roll tells the number, too.
func (w *model) roll() int {
	if w.there() {
		w.last++
	}
	return w.last
}

func (w *model) append(p string) api.Errno {
	if len(p) > api.MaxRecord {
		return api.ErrLarge
	}
	if w.there() && len(w.disk()[segment(w.last)]) >= w.size {
		w.roll()
	}
	d := w.disk()
	if !w.there() && len(d) == 256 {
		return api.ErrFull
	}
	used := 0
	for _, text := range d {
		used += len(text)
	}
	if used+bare+len(p) > w.capacity {
		return api.ErrSpace
	}
	if !w.there() {
		if len(w.rows) == 0 {
			w.least = w.last
		}
		w.rows = append(w.rows, nil)
	}
	w.rows[len(w.rows)-1] = append(w.rows[len(w.rows)-1], p)
	return api.OK
}

func (w *model) prune(n int) api.Errno {
	if n > w.last {
		return api.ErrArg
	}
	for len(w.rows) > 0 && w.least < n {
		w.rows = w.rows[1:]
		w.least++
	}
	return api.OK
}

// pair is a log and its words, which are told the same.
type pair struct {
	t *testing.T
	s *store.Store
	l *Log
	w *model
}

// newPair is a log of a store of so many bytes, with other files.
func newPair(t *testing.T, capacity, size int, others disk) *pair {
	t.Helper()
	s := store.New(capacity)
	for name, text := range others {
		if e := s.Append(name, []byte(text)); e != api.OK {
			t.Fatal(e)
		}
	}
	l, _, e := Open(s, size)
	if e != api.OK {
		t.Fatal(e)
	}
	return &pair{t, s, l, &model{size: size, capacity: capacity, last: 1, others: others}}
}

// same wants what is seen to be as the words have it.
func (p *pair) same(what string) {
	p.t.Helper()
	d := p.w.disk()
	if p.l.Last() != p.w.last || p.l.Bytes() != d.bytes() {
		p.t.Fatalf("%s: last %d, bytes %d, not %d, %d", what, p.l.Last(), p.l.Bytes(), p.w.last, d.bytes())
	}
	if got := diskOf(p.s); !maps.Equal(got, d) {
		p.t.Fatalf("%s: other files than the words: %q, not %q", what, slices.Sorted(maps.Keys(got)), slices.Sorted(maps.Keys(d)))
	}
}

func (p *pair) append(b string) api.Errno {
	p.t.Helper()
	got, want := p.l.Append([]byte(b)), p.w.append(b)
	if got != want {
		p.t.Fatalf("Append(%d bytes): %d, not %d", len(b), got, want)
	}
	p.same(fmt.Sprintf("behind Append(%d bytes %q)", len(b), head(b)))
	return got
}

// wants appends and wants that error.
func (p *pair) wants(b string, e api.Errno) {
	p.t.Helper()
	if got := p.append(b); got != e {
		p.t.Fatalf("Append(%d bytes): %d, not %d", len(b), got, e)
	}
}

func (p *pair) sync() {
	p.t.Helper()
	if e := p.l.Sync(); e != api.OK {
		p.t.Fatalf("Sync: %d", e)
	}
	p.same("behind Sync")
}

func (p *pair) roll() {
	p.t.Helper()
	if n, e := p.l.Roll(); n != p.w.roll() || e != api.OK {
		p.t.Fatalf("Roll: %d, %d, not %d", n, e, p.w.last)
	}
	p.same("behind Roll")
}

func (p *pair) prune(n int) {
	p.t.Helper()
	if got, want := p.l.Prune(n), p.w.prune(n); got != want {
		p.t.Fatalf("Prune(%d): %d, not %d", n, got, want)
	}
	p.same(fmt.Sprint("behind Prune ", n))
}

// open opens anew, without a crash.
func (p *pair) open() {
	p.t.Helper()
	want := p.w.disk().opened(0)
	l, payloads, e := Open(p.s, p.w.size)
	if got := texts(payloads); e != api.OK || !slices.Equal(got, want.payloads) {
		p.t.Fatalf("Open: %d, %s, not %s", e, heads(got), heads(want.payloads))
	}
	p.l, p.w.last = l, want.last
	p.same("behind Open")
}

// P8.2: payloads of no bytes and of more, up to the longest one.
func TestAppend(t *testing.T) {
	p := newPair(t, room, widest, others())
	m := mixer(3)
	for _, size := range []int{0, 1, 2, 12, 13, 14, 255, 256, 257, 1000, api.MaxRecord - 1, api.MaxRecord, 0, 1} {
		p.wants(m.text(size), api.OK)
	}
	for _, text := range []string{"\x00", "\xff", "Z", rec("within"), rec("within")[:9]} {
		p.wants(text, api.OK)
	}
	for _, size := range []int{api.MaxRecord + 1, api.MaxRecord + 2, 1 << 17, room + 1} {
		p.wants(m.text(size), api.ErrLarge)
	}
	p.wants("behind", api.OK)
	if e := p.l.Append(nil); e != api.OK || p.w.append("") != api.OK {
		t.Error(e)
	}
	p.same("behind Append(nil)")
	p.open()
}

// P8.2: a last segment of one byte less than size, of just size, and of more: whether it rolls.
func TestAppendRolls(t *testing.T) {
	for first := range 4 {
		for second := range 4 {
			bytes := len(rec("abc"[:first], "abc"[:second]))
			for size := bytes - 3; size <= bytes+3; size++ {
				p := newPair(t, room, size, nil)
				p.wants("abc"[:first], api.OK)
				p.wants("abc"[:second], api.OK)
				if p.l.Last() != 1 {
					t.Fatalf("size %d: %d with %d bytes in it", size, p.l.Last(), bytes)
				}
				p.wants("x", api.OK)
				if rolled := p.l.Last() == 2; rolled != (bytes >= size) {
					t.Errorf("size %d, %d bytes: rolled %v", size, bytes, rolled)
				}
			}
		}
	}
}

// P8.2: a record is put whole at the last segment, however long, and each one behind size bytes begins a further one.
func TestAppendLongRolls(t *testing.T) {
	for _, size := range []int{1, 2, bare - 1, bare, bare + 1, 30, 100, 70000, widest} {
		p := newPair(t, room, size, nil)
		for i, length := range []int{0, 0, 1, 20, 200, 0, api.MaxRecord, 0, 1, 70, api.MaxRecord, 0} {
			p.wants(strings.Repeat(strconv.Itoa(i%10), length), api.OK)
		}
		p.open()
		p.wants("x", api.OK)
	}
}

// P8.2: what rolls is safe, whatever isn't behind it.
func TestAppendRollIsSafe(t *testing.T) {
	p := newPair(t, room, 14, nil)
	p.wants("a", api.OK)
	p.wants("b", api.OK)
	p.wants("c", api.OK)
	p.s.Crash()
	p.s.Boot(nil)
	if got := diskOf(p.s); !maps.Equal(got, disk{"s1": rec("a"), "s2": rec("b")}) {
		t.Errorf("%q", got)
	}
}

// P8.2: an Append below size makes nothing safe.
func TestAppendIsUnsafe(t *testing.T) {
	p := newPair(t, room, 100, nil)
	p.wants("a", api.OK)
	p.wants("b", api.OK)
	p.s.Crash()
	p.s.Boot(nil)
	if got := p.s.Names(); len(got) != 0 {
		t.Errorf("%q", got)
	}
}

// P8.2: too long a payload: ErrLarge ahead of all else, at a log that would roll, that is full, that has no space, and without the power; it doesn't roll.
func TestAppendLarge(t *testing.T) {
	long := make([]byte, api.MaxRecord+1)
	p := newPair(t, 14, 14, nil)
	p.wants(string(long), api.ErrLarge)
	p.wants("a", api.OK)
	p.s.Fuse(1)
	p.wants(string(long), api.ErrLarge)
	if p.s.Down() {
		t.Error("a refused payload was a deed")
	}
	p.s.Crash()
	if e := p.l.Append(long); e != api.ErrLarge {
		t.Error(e)
	}
	if p.l.Last() != 1 {
		t.Error(p.l.Last())
	}
	p.s.Boot(nil)
	if len(p.s.Names()) != 0 {
		t.Error("a refused payload made something safe")
	}
}

// fillers are so many files of no bytes.
func fillers(count int) disk {
	d := disk{}
	for i := range count {
		d[fmt.Sprintf("f%03d", i)] = ""
	}
	return d
}

// P8.2: a store of 256 files: at a last segment that isn't there, that is, and that takes no more.
func TestAppendFull(t *testing.T) {
	p := newPair(t, room, 30, fillers(256))
	p.wants("a", api.ErrFull)
	p.wants("", api.ErrFull)
	p.roll()

	p = newPair(t, room, 30, fillers(255))
	p.wants("a", api.OK)
	p.wants("bb", api.OK)
	p.wants("ccc", api.OK)
	p.wants("d", api.ErrFull)
	if p.l.Last() != 2 {
		t.Errorf("%d: it has rolled by then", p.l.Last())
	}
	p.wants("d", api.ErrFull)
	p.wants(strings.Repeat("d", 60000), api.ErrFull)
	p.sync()
	p.roll()
	p.prune(2)
	p.wants("e", api.OK)
	p.open()
}

// P8.2: full comes ahead of without space.
func TestAppendFullAndSpace(t *testing.T) {
	p := newPair(t, 14, 14, fillers(255))
	p.wants("a", api.OK)
	p.wants("b", api.ErrFull)
	p.wants(strings.Repeat("b", 60000), api.ErrFull)
}

// P8.2: a store without space: bytes that just fit, and one more; at a last segment that rolls.
func TestAppendSpace(t *testing.T) {
	p := newPair(t, 60, 30, disk{"other": "12345"})
	p.wants(strings.Repeat("a", 43), api.ErrSpace)
	p.wants(strings.Repeat("a", 17), api.OK)
	p.wants(strings.Repeat("b", 13), api.ErrSpace)
	if p.l.Last() != 2 {
		t.Errorf("%d: it has rolled by then", p.l.Last())
	}
	p.wants(strings.Repeat("b", 12), api.OK)
	for range 3 {
		p.wants("", api.ErrSpace)
	}
	p.open()
	p.roll()
	p.wants("", api.ErrSpace)
	p.prune(3)
	p.wants(strings.Repeat("c", 42), api.OK)
	p.wants("", api.ErrSpace)
	p.open()
}

// P8.2: the store's errors at an Append whose roll makes the last segment safe, though nothing is appended.
func TestAppendRolledWithoutSpace(t *testing.T) {
	p := newPair(t, 20, 14, nil)
	p.wants("a", api.OK)
	p.wants("b", api.ErrSpace)
	if p.l.Last() != 2 {
		t.Fatal(p.l.Last())
	}
	p.s.Crash()
	p.s.Boot(nil)
	wantFound(t, "rolled", p.s, 0, found{disk{"s1": rec("a")}, []string{"a"}, 1})
}

// wantDown wants all calls of a log without the power to answer that, and nothing to change by them.
func wantDown(t *testing.T, s *store.Store, l *Log) {
	t.Helper()
	last := l.Last()
	for _, b := range [][]byte{nil, []byte("a"), make([]byte, api.MaxRecord)} {
		if e := l.Append(b); e != api.ErrDown {
			t.Errorf("Append: %d", e)
		}
	}
	if e := l.Sync(); e != api.ErrDown {
		t.Errorf("Sync: %d", e)
	}
	if n, e := l.Roll(); n != 0 || e != api.ErrDown {
		t.Errorf("Roll: %d, %d", n, e)
	}
	for _, n := range []int{lowest, -1, 0, 1, last} {
		if e := l.Prune(n); e != api.ErrDown {
			t.Errorf("Prune(%d): %d", n, e)
		}
	}
	for _, n := range []int{last + 1, highest} {
		if e := l.Prune(n); e != api.ErrArg {
			t.Errorf("Prune(%d): %d", n, e)
		}
	}
	if l.Last() != last || l.Bytes() != 0 || !s.Down() {
		t.Errorf("last %d, not %d; bytes %d", l.Last(), last, l.Bytes())
	}
}

// P8.2 and P8.3: each call while the power is gone: at a last segment that is there, that isn't, that takes no more, and without any.
func TestGone(t *testing.T) {
	for _, rows := range [][]string{nil, {"a"}, {"a", "bb"}, {"a", "bb", "ccc"}, {"a", "bb", "ccc", "d"}} {
		for _, rolled := range []bool{false, true} {
			p := newPair(t, room, 30, others())
			for _, b := range rows {
				p.wants(b, api.OK)
			}
			if rolled {
				p.roll()
			}
			p.sync()
			for name := range others() {
				p.s.Sync(name)
			}
			p.s.Crash()
			wantDown(t, p.s, p.l)
			p.s.Boot(nil)
			p.same("behind a crash")
			p.wants("e", api.OK)
		}
	}
}

// P8.2: Append while the power goes: at the roll and at the append itself.
func TestAppendGoes(t *testing.T) {
	for _, c := range []struct {
		ahead []string
		fuse  int
		keep  int
		last  int
		left  disk
	}{
		{nil, 1, 0, 1, disk{}},
		{nil, 1, 5, 1, disk{"s1": rec("x")[:5]}},
		{nil, 1, all, 1, disk{"s1": rec("x")}},
		{[]string{"a"}, 1, 0, 1, disk{}},
		{[]string{"a"}, 1, 14, 1, disk{"s1": rec("a")}},
		{[]string{"a"}, 1, 20, 1, disk{"s1": rec("a", "x")[:20]}},
		{[]string{"a", "bb", "ccc"}, 1, 0, 1, disk{}},
		{[]string{"a", "bb", "ccc"}, 1, all, 1, disk{"s1": rec("a", "bb", "ccc")}},
		{[]string{"a", "bb", "ccc"}, 2, 0, 2, disk{"s1": rec("a", "bb", "ccc")}},
		{[]string{"a", "bb", "ccc"}, 2, all, 2, disk{"s1": rec("a", "bb", "ccc"), "s2": rec("x")}},
	} {
		p := newPair(t, room, 30, nil)
		for _, b := range c.ahead {
			p.wants(b, api.OK)
		}
		p.s.Fuse(c.fuse)
		if e := p.l.Append([]byte("x")); e != api.ErrDown || p.l.Last() != c.last {
			t.Errorf("%v: %d, %d", c, e, p.l.Last())
		}
		wantDown(t, p.s, p.l)
		p.s.Boot([]int{c.keep, c.keep})
		if got := diskOf(p.s); !maps.Equal(got, c.left) {
			t.Errorf("%v: %q", c, got)
		}
	}
}

// P8.2: an Append that doesn't roll is one deed, one that rolls is two.
func TestAppendDeeds(t *testing.T) {
	p := newPair(t, room, 14, nil)
	p.s.Fuse(2)
	p.wants("a", api.OK)
	p.s.Fuse(3)
	p.wants("b", api.OK)
	p.s.Fuse(0)
	p.open()
}

// P8.2: Sync at a last segment that is there: all is safe, and it needs one deed; at one that isn't there: none.
func TestSync(t *testing.T) {
	p := newPair(t, room, 30, nil)
	p.s.Fuse(1)
	p.sync()
	p.s.Fuse(0)
	p.wants("", api.OK)
	p.wants("bb", api.OK)
	p.s.Fuse(2)
	p.sync()
	p.s.Fuse(0)
	p.sync()
	p.roll()
	p.s.Fuse(1)
	p.sync()
	p.s.Fuse(0)
	p.s.Crash()
	p.s.Boot(nil)
	p.same("behind a crash")
	p.open()
}

// P8.2: Sync makes the log safe, and no other file.
func TestSyncOthers(t *testing.T) {
	p := newPair(t, room, 30, others())
	for _, b := range []string{"a", "bb", "ccc", "d", "ee"} {
		p.wants(b, api.OK)
	}
	p.sync()
	p.s.Crash()
	p.s.Boot(nil)
	if got := diskOf(p.s); !maps.Equal(got, disk{"s1": rec("a", "bb", "ccc"), "s2": rec("d", "ee")}) {
		t.Errorf("%q", got)
	}
}

// P8.2: Sync and Roll while the power goes: nothing was made safe, and it hasn't rolled.
func TestSyncAndRollGo(t *testing.T) {
	for _, keep := range []int{0, 5, 14, 20, all} {
		for _, roll := range []bool{false, true} {
			p := newPair(t, room, 30, nil)
			p.wants("a", api.OK)
			p.wants("bb", api.OK)
			p.s.Fuse(1)
			n, e := 0, api.OK
			if roll {
				n, e = p.l.Roll()
			} else {
				e = p.l.Sync()
			}
			if n != 0 || e != api.ErrDown {
				t.Fatalf("%d, %d", n, e)
			}
			wantDown(t, p.s, p.l)
			if p.l.Last() != 1 {
				t.Error(p.l.Last())
			}
			p.s.Boot([]int{keep})
			want := disk{"s1": rec("a", "bb")[:min(keep, 29)]}
			if keep == 0 {
				want = disk{}
			}
			if got := diskOf(p.s); !maps.Equal(got, want) {
				t.Errorf("%q, not %q", got, want)
			}
		}
	}
}

// P8.2: Roll tells the number: at one that is there, with and without bytes, it goes on; at one that isn't, it stays.
func TestRoll(t *testing.T) {
	p := newPair(t, room, 30, others())
	p.s.Fuse(1)
	p.roll()
	p.roll()
	p.s.Fuse(0)
	for n := 2; n < 14; n++ {
		p.wants(strconv.Itoa(n), api.OK)
		p.s.Fuse(2)
		p.roll()
		if p.l.Last() != n {
			t.Errorf("%d, not %d", p.l.Last(), n)
		}
		p.s.Fuse(1)
		p.roll()
		p.roll()
		p.s.Fuse(0)
	}
	p.s.Crash()
	p.s.Boot(nil)
	p.w.others = nil
	p.same("behind a crash")
	p.open()

	d := disk{"s5": "x"}
	s := d.safe(t)
	l := wantFound(t, "torn", s, 0, d.opened(0))
	if n, e := l.Roll(); n != 6 || e != api.OK || l.Last() != 6 {
		t.Errorf("at one of no bytes: %d, %d", n, e)
	}
	if got := diskOf(s); !maps.Equal(got, disk{"s5": ""}) {
		t.Errorf("%q", got)
	}
}

// P8.2: at the greatest number it goes on as long as size lets it; then there is no room for a further segment, and nothing changes.
func TestGreatestNumber(t *testing.T) {
	s := store.New(room)
	l, _, e := OpenAt(s, 28, top)
	if n, e := l.Roll(); n != top || e != api.OK {
		t.Errorf("%d, %d", n, e)
	}
	for _, b := range []string{"a", "b"} {
		if e = l.Append([]byte(b)); e != api.OK {
			t.Error(e)
		}
	}
	s.Fuse(1)
	for range 2 {
		if e = l.Append([]byte("c")); e != api.ErrFull {
			t.Error(e)
		}
		if n, e := l.Roll(); n != 0 || e != api.ErrFull {
			t.Errorf("%d, %d", n, e)
		}
		if l.Last() != top || l.Bytes() != 28 || s.Down() {
			t.Errorf("%d, %d, %v", l.Last(), l.Bytes(), s.Down())
		}
		if e := l.Prune(top + 1); e != api.ErrArg {
			t.Error(e)
		}
	}
	s.Fuse(0)
	if e := l.Sync(); e != api.OK {
		t.Error(e)
	}
	if e := l.Prune(top); e != api.OK {
		t.Error(e)
	}
	s.Crash()
	wantDown(t, s, l)
	s.Boot(nil)
	wantFound(t, "the greatest", s, 0, found{disk{"s1073741824": rec("a", "b")}, []string{"a", "b"}, top})
}

// P8.2: a log rolls onto the greatest number.
func TestOntoGreatestNumber(t *testing.T) {
	s := store.New(room)
	l, _, _ := OpenAt(s, 1, top-1)
	for i, want := range []api.Errno{api.OK, api.OK, api.ErrFull} {
		if e := l.Append([]byte{byte(i)}); e != want || l.Last() != min(top-1+i, top) {
			t.Errorf("%d: %d, %d", i, e, l.Last())
		}
	}
}

// P8.2: Prune at each number, at a last segment that is there and at one that isn't: those below go, and others stay.
func TestPrune(t *testing.T) {
	for _, rolled := range []bool{false, true} {
		for _, n := range []int{lowest, -top, -1, 0, 1, 2, 3, 8, 9, 10, 11, 12, 13, 14, 100, top, top + 1, highest} {
			p := newPair(t, room, 1, others())
			for i := range 12 {
				p.wants(strconv.Itoa(i), api.OK)
			}
			if rolled {
				p.roll()
			}
			p.prune(3)
			p.prune(n)
			p.prune(n)
			p.wants("x", api.OK)
			p.open()
		}
	}
}

// P8.2: what Prune answers at the edges.
func TestPruneErrors(t *testing.T) {
	p := newPair(t, room, 1, nil)
	want := func(n int, e api.Errno) {
		t.Helper()
		if got := p.l.Prune(n); got != e {
			t.Errorf("Prune(%d) = %d, not %d", n, got, e)
		}
		p.same("behind Prune")
	}
	want(lowest, api.OK)
	want(0, api.OK)
	want(1, api.OK)
	want(2, api.ErrArg)
	want(highest, api.ErrArg)
	p.wants("a", api.OK)
	p.wants("b", api.OK)
	want(1, api.OK)
	want(3, api.ErrArg)
	p.roll()
	want(4, api.ErrArg)
	p.prune(3)
	want(2, api.OK)
	want(3, api.OK)
	want(4, api.ErrArg)
}

// P8.2: each segment that Prune lets go is a deed, and nothing else is.
func TestPruneDeeds(t *testing.T) {
	p := newPair(t, room, 1, nil)
	for range 12 {
		p.wants("a", api.OK)
	}
	p.s.Fuse(1)
	p.prune(1)
	p.prune(-5)
	p.s.Fuse(4)
	p.prune(4)
	p.s.Fuse(1)
	p.prune(4)
	p.prune(2)
}

// P8.2 and P8.4: Prune while the power goes: the least ones are gone, and none is missing between those that are left.
func TestPruneGoes(t *testing.T) {
	for fuse := 1; fuse <= 11; fuse++ {
		p := newPair(t, room, 1, nil)
		for i := range 12 {
			p.wants(strconv.Itoa(i), api.OK)
		}
		p.sync()
		p.s.Fuse(fuse)
		if e := p.l.Prune(12); e != api.ErrDown {
			t.Fatalf("fuse %d: %d", fuse, e)
		}
		wantDown(t, p.s, p.l)
		p.s.Boot(nil)
		p.w.prune(fuse)
		p.open()
		p.prune(12)
	}
}

// P8.2 and R4: what was appended is kept by its values, and isn't changed.
func TestAppendMemory(t *testing.T) {
	p := newPair(t, room, 100, nil)
	b := []byte("first and more")
	part := b[:5]
	if e := p.l.Append(part); e != api.OK {
		t.Fatal(e)
	}
	if string(b) != "first and more" {
		t.Errorf("%q", b)
	}
	clear(b)
	p.w.append("first")
	p.same("behind a change of the argument")
	p.open()
}

// P8.2: two logs of two stores are two.
func TestLogsApart(t *testing.T) {
	one, two := newPair(t, room, 1, nil), newPair(t, room, 30, nil)
	one.wants("a", api.OK)
	two.wants("b", api.OK)
	one.wants("c", api.OK)
	two.roll()
	one.same("behind the other's Roll")
	one.prune(2)
	two.same("behind the other's Prune")
	one.s.Crash()
	two.sync()
}

// P8.1 to P8.3: all rows of six calls out of few, against the words.
func TestAllRows(t *testing.T) {
	const kinds, length = 6, 6
	rows := 1
	for range length {
		rows *= kinds
	}
	for row := range rows {
		p := newPair(t, 90, 28, disk{"other": "x"})
		for range length {
			switch row % kinds {
			case 0:
				p.append("a")
			case 1:
				p.append("bb, and more of it")
			case 2:
				p.roll()
			case 3:
				p.prune(p.l.Last())
			case 4:
				p.prune(2)
			case 5:
				p.open()
			}
			row /= kinds
		}
	}
}

// P8.1 to P8.3: long drawn rows of calls, against the words.
func TestDrawnRows(t *testing.T) {
	m := mixer(4)
	for range 300 {
		size := 1 + m.below(80)
		p := newPair(t, 100+m.below(1000), size, fillers(m.below(3)*120))
		for range 60 {
			switch m.below(12) {
			default:
				p.append(m.text(m.below(40)))
			case 1:
				p.sync()
			case 2:
				p.roll()
			case 3:
				p.prune(p.l.Last() - m.below(4))
			case 4:
				p.prune(p.l.Last() + 2 - m.below(8))
			case 5:
				p.open()
			case 6:
				p.append(strings.Repeat("x", m.below(2)*70000))
			}
		}
	}
}

// The kinds of calls of a row that may be cut short by a crash.
const (
	doEmpty = iota
	doShort
	doLong
	doSync
	doRoll
	doPrune
	doPruneHalf
	doOpen
	doKinds
)

// keeper tells what is sure of a log whose power goes: its payloads, each with its segment's number, of which the first ones are safe.
type keeper struct {
	t     *testing.T
	what  string
	s     *store.Store
	l     *Log
	size  int
	count int // of all payloads, so that each one is another
	rows  []kept
	sure  int // how many of them are safe
	last  int
	maybe *kept // what was being appended when the power went
	least int   // the segment from which on all are sure not to be pruned
}

// kept is a payload and its segment's number.
type kept struct {
	text string
	at   int
}

func newKeeper(t *testing.T, what string, size int) *keeper {
	t.Helper()
	s := store.New(room)
	l, _, e := Open(s, size)
	if e != api.OK {
		t.Fatal(e)
	}
	return &keeper{t: t, what: what, s: s, l: l, size: size, last: 1}
}

// filled is how many bytes the last segment has.
func (k *keeper) filled() int {
	n := 0
	for _, x := range k.rows {
		if x.at == k.last {
			n += len(rec(x.text))
		}
	}
	return n
}

// append appends a payload of at least so many bytes.
func (k *keeper) append(size int) api.Errno {
	text := fmt.Sprint(k.count)
	if size == 0 {
		text = ""
	}
	text += strings.Repeat("x", max(size-len(text), 0))
	k.count++
	last := k.last
	if k.filled() >= k.size {
		last++
	}
	e := k.l.Append([]byte(text))
	if k.l.Last() == last && last > k.last {
		k.sure, k.last = len(k.rows), last
	}
	x := kept{text, last}
	if e == api.OK {
		k.rows = append(k.rows, x)
	} else if k.last == last {
		k.maybe = &x
	}
	return e
}

// prune lets segments below n go.
func (k *keeper) prune(n int) api.Errno {
	e := k.l.Prune(n)
	if e != api.OK {
		k.least = n
		return e
	}
	for len(k.rows) > 0 && k.rows[0].at < n {
		k.rows = k.rows[1:]
		k.sure = max(k.sure-1, 0)
	}
	return e
}

// do makes a call; it answers OK, or the power went.
func (k *keeper) do(kind int) api.Errno {
	e := api.OK
	switch kind {
	case doEmpty:
		e = k.append(0)
	case doShort:
		e = k.append(1)
	case doLong:
		e = k.append(20)
	case doSync:
		if e = k.l.Sync(); e == api.OK {
			k.sure = len(k.rows)
		}
	case doRoll:
		if k.last, e = k.l.Roll(); e == api.OK {
			k.sure = len(k.rows)
		}
	case doPrune:
		e = k.prune(k.l.Last())
	case doPruneHalf:
		e = k.prune(k.l.Last() - 1)
	case doOpen:
		e = k.open(len(k.rows))
	}
	if e != api.OK && e != api.ErrDown || (e == api.ErrDown) != k.s.Down() {
		k.t.Fatalf("%s: call of kind %d: %d", k.what, kind, e)
	}
	return e
}

// open opens, wants that many of the payloads, and goes on with them.
func (k *keeper) open(least int) api.Errno {
	k.t.Helper()
	l, payloads, e := Open(k.s, k.size)
	if e != api.OK {
		return e
	}
	if k.maybe != nil {
		k.rows = append(k.rows, *k.maybe)
	}
	gone := 0
	for gone < len(k.rows) && k.rows[gone].at < k.least && !k.begins(k.rows[gone:], payloads, least-gone) {
		gone++
		for gone < len(k.rows) && k.rows[gone].at == k.rows[gone-1].at {
			gone++
		}
	}
	if !k.begins(k.rows[gone:], payloads, least-gone) {
		k.t.Fatalf("%s: %s of %d (%d of them sure)", k.what, heads(texts(payloads)), len(k.rows), least)
	}
	k.rows = k.rows[gone : gone+len(payloads)]
	k.l, k.last, k.maybe, k.least = l, l.Last(), nil, 0
	k.sure = min(max(k.sure-gone, 0), len(k.rows))
	return e
}

// begins tells whether payloads are the first ones of rows, and at least so many.
func (k *keeper) begins(rows []kept, payloads [][]byte, least int) bool {
	if len(payloads) > len(rows) || len(payloads) < least {
		return false
	}
	for i, b := range payloads {
		if string(b) != rows[i].text {
			return false
		}
	}
	return true
}

// crash takes the power, boots, and opens; that again, and with the power going at each deed of the opening.
func (k *keeper) crash(keep int) {
	k.t.Helper()
	k.s.Crash()
	var told []int
	if keep > 0 {
		told = slices.Repeat([]int{keep}, 256)
	}
	if e := k.s.Boot(told); e != api.OK {
		k.t.Fatal(e)
	}
	least := k.sure
	if keep == all {
		least = len(k.rows) // and what was being appended may be there, too
	}
	for n := 1; ; n++ {
		k.s.Fuse(n)
		if e := k.open(least); e == api.OK {
			k.s.Fuse(0)
			break
		}
		k.s.Boot(nil)
	}
	if keep == 0 && len(k.rows) > least {
		k.t.Fatalf("%s: %d payloads are there, of which %d were made safe", k.what, len(k.rows), least)
	}
	k.sure = len(k.rows)
	for range 2 {
		k.open(len(k.rows))
	}
	k.s.Crash()
	k.s.Boot(nil)
	k.open(len(k.rows))
}

// P8.4: all rows of four calls, with the power gone at each deed and behind the last, and nothing, some and all kept of what isn't safe; then it goes on.
func TestCrashAtEachPlace(t *testing.T) {
	const length = 4
	rows := 1
	for range length {
		rows *= doKinds
	}
	keeps := []int{0, 1, bare, bare + 1, 2 * bare, 40, all}
	for row := range rows {
		for fuse := 0; ; fuse++ {
			down := false
			for _, keep := range keeps {
				k := newKeeper(t, fmt.Sprintf("row %d, fuse %d, keep %d", row, fuse, keep), 28)
				k.append(1)
				k.s.Fuse(fuse)
				rest := row
				for range length {
					if k.do(rest%doKinds) != api.OK {
						break
					}
					rest /= doKinds
				}
				down = k.s.Down()
				k.crash(keep)
				k.append(5)
				if k.do(doSync) != api.OK {
					t.Fatal("no power")
				}
				k.crash(0)
			}
			if fuse > 0 && !down {
				break
			}
		}
	}
}

// P8.4: long drawn rows with a crash now and then, at drawn deeds.
func TestDrawnCrashes(t *testing.T) {
	m := mixer(5)
	for run := range 150 {
		k := newKeeper(t, fmt.Sprint("run ", run), 1+m.below(90))
		for range 30 {
			if m.below(3) > 0 {
				k.s.Fuse(1 + m.below(40))
			}
			for range m.below(40) {
				if k.do(drawn(&m, []int{doEmpty, doShort, doShort, doLong, doLong, doSync, doRoll, doPrune, doPruneHalf, doOpen})) != api.OK {
					break
				}
			}
			k.s.Fuse(0)
			k.crash(drawn(&m, []int{0, 1, 9, 13, 14, 20, 33, 60, all}))
		}
	}
}

// P8.4: of what isn't safe, just those records are told that are whole in what is kept.
func TestKept(t *testing.T) {
	payloads := []string{"a", "bb", "", "dddd"}
	for synced := range 5 {
		for keep := range 60 {
			p := newPair(t, room, 1000, nil)
			bytes := 0
			for i, b := range payloads {
				p.wants(b, api.OK)
				if i < synced {
					p.sync()
					bytes += len(rec(b))
				}
			}
			p.s.Crash()
			p.s.Boot([]int{keep})
			d := disk{"s1": rec(payloads...)[:min(bytes+keep, len(rec(payloads...)))]}
			if bytes+keep == 0 {
				d = disk{}
			}
			wantFound(t, fmt.Sprint("kept ", keep), p.s, 0, d.opened(0))
			wantFound(t, fmt.Sprint("kept ", keep, ", again"), p.s, 0, d.opened(0).left.opened(0))
		}
	}
}

// P8.4: roll, append, sync and prune, as a checkpoint does, with the power gone at each deed of it; an opening from the number on that was rolled to tells what is behind it alone, and leaves nothing below.
func TestCheckpoint(t *testing.T) {
	down := true
	for fuse := 1; down; fuse++ {
		for _, keep := range []int{0, 5, all} {
			p := newPair(t, room, 1, nil)
			for i := range 11 {
				p.wants(strconv.Itoa(i), api.OK)
			}
			p.s.Fuse(fuse)
			p.l.Roll()
			p.l.Append([]byte("behind"))
			synced := p.l.Sync()
			pruned := p.l.Prune(12)
			down = p.s.Down()
			p.s.Crash()
			p.s.Boot(slices.Repeat([]int{keep}, 256))
			want := diskOf(p.s).opened(12)
			if synced == api.OK && !slices.Equal(want.payloads, []string{"behind"}) {
				t.Fatalf("fuse %d, keep %d: %s", fuse, keep, heads(want.payloads))
			}
			if plain := diskOf(p.s).opened(0); pruned == api.OK && !slices.Equal(plain.payloads, want.payloads) {
				t.Fatalf("fuse %d, keep %d: %s", fuse, keep, heads(plain.payloads))
			}
			checkOpen(t, "behind a checkpoint", diskOf(p.s), 12)
			wantFound(t, "behind a checkpoint", p.s, 12, want)
		}
	}
}

// P8.4: an opening at a number that isn't there, with the power gone at each deed of it: what is behind that number is never read as if it were the first.
func TestOpenAtGoes(t *testing.T) {
	d := disk{"s1": rec("1"), "s2": rec("2"), "s4": rec("4"), "s5": rec("5")}
	for fuse := 1; fuse <= 4; fuse++ {
		s := d.safe(t)
		s.Fuse(fuse)
		refuses(t, s, 30, 3, api.ErrDown)
		s.Boot(nil)
		want := found{disk{"s1": rec("1"), "s2": rec("2")}, []string{"1", "2"}, 2}
		if fuse == 4 {
			want = found{disk{"s2": rec("2")}, []string{"2"}, 2}
		}
		wantFound(t, fmt.Sprint("gone at deed ", fuse), s, 0, want)
	}
}

// The chapter's example: Append "a", Sync, Append "b", a crash that keeps 3 bytes, Open: "a".
func TestExample(t *testing.T) {
	s := store.New(100)
	l, _, _ := Open(s, 100)
	l.Append([]byte("a"))
	l.Sync()
	l.Append([]byte("b"))
	s.Crash()
	s.Boot([]int{3})
	for range 2 {
		l, payloads, e := Open(s, 100)
		if got := texts(payloads); !slices.Equal(got, []string{"a"}) || e != api.OK || l.Last() != 1 || l.Bytes() != 14 {
			t.Errorf("%q, %d, %d, %d", got, e, l.Last(), l.Bytes())
		}
	}
}

// P1: any bytes at all in a store's segments, at any arguments, end without a panic and with what the words say.
func TestAnyBytes(t *testing.T) {
	m := mixer(6)
	for range 2000 {
		d := disk{}
		for range m.below(6) {
			text := m.text(m.below(20))
			for range m.below(4) {
				text += rec(m.text(m.below(6)))
			}
			if m.below(2) == 0 {
				text = rec(m.text(m.below(6))) + text
			}
			if m.below(3) > 0 {
				text = strings.TrimLeft(text, text[:min(1, len(text))])
			}
			d[drawn(&m, []string{"s1", "s2", "s3", "s4", "s9", "s10", "s11", "s1073741824", "other"})] = text
		}
		checkOpen(t, "any bytes", d, drawn(&m, []int{0, 0, 0, 1, 2, 3, 9, 10, top}))
	}
}

// P1: any arguments at all.
func TestAnyArguments(t *testing.T) {
	edges := []int{lowest, lowest + 1, -top, -1, 0, 1, 2, 3, 30, widest, widest + 1, top - 1, top, top + 1, 1 << 31, 1 << 32, highest - 1, highest}
	for _, size := range edges {
		for _, first := range edges {
			s := disk{"s2": rec("a"), "s3": "x"}.safe(t)
			OpenAt(nil, size, first)
			Open(nil, size)
			l, _, e := OpenAt(s, size, first)
			good := size >= 1 && size <= widest && first >= 1 && first <= top
			if good != (e == api.OK) || good != (l != nil) {
				t.Fatalf("OpenAt(%d, %d): %v, %d", size, first, l, e)
			}
			if !good {
				continue
			}
			for _, n := range edges {
				if e := l.Prune(n); (e == api.OK) != (n <= l.Last()) {
					t.Errorf("Prune(%d) at %d: %d", n, l.Last(), e)
				}
			}
			l.Append(nil)
			l.Append(bytes.Repeat([]byte{0x5a}, 40))
			l.Roll()
			l.Append([]byte{})
			if l.Last() > top {
				t.Errorf("%d is no segment's number", l.Last())
			}
		}
	}
}

func ExampleLog() {
	s := store.New(1 << 20)
	l, _, _ := Open(s, 4096)
	l.Append([]byte("first"))
	l.Sync()
	l.Append([]byte("second"))
	s.Crash()
	s.Boot([]int{3})
	l, payloads, e := Open(s, 4096)
	fmt.Println(texts(payloads), e, l.Last(), l.Bytes())
	n, e := l.Roll()
	fmt.Println(n, e, l.Prune(n), l.Bytes())
	l.Append([]byte("third"))
	_, payloads, e = OpenAt(s, 4096, n)
	fmt.Println(texts(payloads), e, s.Names())
	// Output:
	// [first] 0 1 18
	// 2 0 0 0
	// [third] 0 [s2]
}
