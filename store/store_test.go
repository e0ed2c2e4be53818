package store

import (
	"bytes"
	"fmt"
	"math"
	"slices"
	"strings"
	"testing"

	"usufruct/api"
	"usufruct/label"
)

const (
	lowest  = math.MinInt
	highest = math.MaxInt
	whole   = 1 << 24 // the greatest capacity
	most    = 256     // files
)

// mixer draws numbers by a rule, the same ones each time.
type mixer uint64

func (m *mixer) below(n int) int {
	*m = *m*6364136223846793005 + 1442695040888963407
	return int(uint64(*m)>>33) % n
}

// head is a row for a message, cut where it is long.
func head[row string | []byte](b row) row {
	return b[:min(len(b), 24)]
}

// overwrite writes over an answer and over all the memory behind it.
func overwrite(b []byte) {
	b = b[:cap(b)]
	for i := range b {
		b[i] ^= 0x5a
	}
	_ = append(b, 0x5a)
}

// The kinds of calls to a store.
const (
	askAppend = iota
	askSync
	askTruncate
	askRemove
	askRead
	askNames
	askFree
	askCrash
	askFuse
	askBoot
	askDown
)

// ask is a call to a store, with its arguments.
type ask struct {
	kind int
	name string
	text string
	n    int
	keep []int
}

func put(name, text string) ask       { return ask{kind: askAppend, name: name, text: text} }
func sync(name string) ask            { return ask{kind: askSync, name: name} }
func truncate(name string, n int) ask { return ask{kind: askTruncate, name: name, n: n} }
func remove(name string) ask          { return ask{kind: askRemove, name: name} }
func read(name string) ask            { return ask{kind: askRead, name: name} }
func crash() ask                      { return ask{kind: askCrash} }
func fuse(n int) ask                  { return ask{kind: askFuse, n: n} }
func boot(keep ...int) ask            { return ask{kind: askBoot, keep: keep} }

func (a ask) String() string {
	word := []string{"Append", "Sync", "Truncate", "Remove", "Read", "Names", "Free", "Crash", "Fuse", "Boot", "Down"}[a.kind]
	return fmt.Sprintf("%s(%q %d %v, %d bytes %q)", word, a.name, a.n, a.keep, len(a.text), head(a.text))
}

// answer is what a call told: its error, and all else as one text.
type answer struct {
	e    api.Errno
	told string
}

func (a answer) String() string {
	return fmt.Sprintf("{%d %q}", a.e, head(a.told))
}

// of makes the call.
func (a ask) of(s *Store) answer {
	switch a.kind {
	case askAppend:
		return answer{e: s.Append(a.name, []byte(a.text))}
	case askSync:
		return answer{e: s.Sync(a.name)}
	case askTruncate:
		return answer{e: s.Truncate(a.name, a.n)}
	case askRemove:
		return answer{e: s.Remove(a.name)}
	case askRead:
		b, e := s.Read(a.name)
		return answer{e, string(b)}
	case askNames:
		return answer{told: strings.Join(s.Names(), " ")}
	case askFree:
		return answer{told: fmt.Sprint(s.Free())}
	case askCrash:
		s.Crash()
	case askFuse:
		s.Fuse(a.n)
	case askBoot:
		return answer{e: s.Boot(a.keep)}
	case askDown:
		return answer{told: fmt.Sprint(s.Down())}
	}
	return answer{}
}

// bit is a byte of a file in the words, safe or not.
type bit struct {
	b    byte
	safe bool
}

// kept is a file in the words: its bytes, and whether it was synced.
type kept struct {
	name   string
	bits   []bit
	synced bool
}

func (k kept) text() string {
	b := make([]byte, len(k.bits))
	for i := range b {
		b[i] = k.bits[i].b
	}
	return string(b)
}

// words is a store as the chapter's words say it: files in a row by rising names, each byte with whether it is safe, deeds counted up to the fuse's.
type words struct {
	capacity int
	files    []kept
	gone     bool
	fused    bool
	deeds    int
	at       int
}

func (w *words) place(name string) int {
	return slices.IndexFunc(w.files, func(k kept) bool { return k.name == name })
}

func (w *words) used() int {
	n := 0
	for _, k := range w.files {
		n += len(k.bits)
	}
	return n
}

// goes counts a deed and tells whether the power goes at it.
func (w *words) goes() bool {
	w.deeds++
	if w.fused && w.deeds == w.at {
		w.gone, w.fused = true, false
		return true
	}
	return false
}

func (w *words) wrong(a ask) api.Errno {
	at := w.place(a.name)
	if w.gone {
		return api.ErrDown
	}
	if a.kind == askAppend {
		if !label.Good(a.name) {
			return api.ErrName
		}
		if at < 0 && len(w.files) == most {
			return api.ErrFull
		}
		if w.used()+len(a.text) > w.capacity {
			return api.ErrSpace
		}
		return api.OK
	}
	if at < 0 {
		return api.ErrNone
	}
	if a.kind == askTruncate && (a.n < 0 || a.n > len(w.files[at].bits)) {
		return api.ErrArg
	}
	return api.OK
}

func (w *words) append(a ask) {
	if w.place(a.name) < 0 {
		w.files = append(w.files, kept{name: a.name})
		slices.SortFunc(w.files, func(a, b kept) int { return strings.Compare(a.name, b.name) })
	}
	k := &w.files[w.place(a.name)]
	for i := range len(a.text) {
		k.bits = append(k.bits, bit{a.text[i], false})
	}
}

func (w *words) deed(a ask) api.Errno {
	if e := w.wrong(a); e != api.OK {
		return e
	}
	goes := w.goes()
	if a.kind == askAppend {
		w.append(a)
	}
	if goes {
		return api.ErrDown
	}
	at := w.place(a.name)
	switch a.kind {
	case askSync:
		w.files[at].synced = true
		for i := range w.files[at].bits {
			w.files[at].bits[i].safe = true
		}
	case askTruncate:
		w.files[at].bits = slices.Clone(w.files[at].bits[:a.n])
	case askRemove:
		w.files = slices.Delete(w.files, at, at+1)
	}
	return api.OK
}

func (w *words) boot(keep []int) api.Errno {
	if !w.gone {
		return api.ErrState
	}
	w.gone = false
	var files []kept
	for i, k := range w.files {
		more := 0
		if i < len(keep) {
			more = keep[i]
		}
		now := kept{name: k.name, synced: true}
		for _, b := range k.bits {
			if !b.safe && more <= 0 {
				break
			}
			if !b.safe {
				more--
			}
			now.bits = append(now.bits, bit{b.b, true})
		}
		if k.synced || len(now.bits) > 0 {
			files = append(files, now)
		}
	}
	w.files = files
	return api.OK
}

func (w *words) read(name string) answer {
	at := w.place(name)
	switch {
	case w.gone:
		return answer{e: api.ErrDown}
	case at < 0:
		return answer{e: api.ErrNone}
	}
	return answer{told: w.files[at].text()}
}

func (w *words) names() string {
	var names []string
	for _, k := range w.files {
		names = append(names, k.name)
	}
	return strings.Join(names, " ")
}

func (w *words) of(a ask) answer {
	switch a.kind {
	case askAppend, askSync, askTruncate, askRemove:
		return answer{e: w.deed(a)}
	case askRead:
		return w.read(a.name)
	case askNames:
		if w.gone {
			return answer{}
		}
		return answer{told: w.names()}
	case askFree:
		if w.gone {
			return answer{told: "0"}
		}
		return answer{told: fmt.Sprint(w.capacity - w.used())}
	case askCrash:
		w.gone, w.fused = true, false
	case askFuse:
		w.deeds, w.at, w.fused = 0, a.n, a.n >= 1
	case askBoot:
		return answer{e: w.boot(a.keep)}
	case askDown:
		return answer{told: fmt.Sprint(w.gone)}
	}
	return answer{}
}

// looks are the calls that tell all there is to see, and change nothing.
func looks(names []string) []ask {
	all := []ask{{kind: askDown}, {kind: askFree}, {kind: askNames}}
	for _, name := range names {
		all = append(all, read(name))
	}
	return all
}

// seen is all there is to see of a store.
func seen(s *Store, names ...string) string {
	told := ""
	for _, a := range looks(append(s.Names(), names...)) {
		told += fmt.Sprintln(a, a.of(s))
	}
	return told
}

// check makes calls in that order, and holds each answer, and what is seen behind it, against the words.
func check(t *testing.T, capacity int, asks ...ask) {
	t.Helper()
	s, w := New(capacity), &words{capacity: capacity}
	var names []string
	for _, a := range asks {
		if a.name != "" && !slices.Contains(names, a.name) {
			names = append(names, a.name)
		}
	}
	for i, a := range asks {
		if got, want := a.of(s), w.of(a); got != want {
			t.Fatalf("call %d of %v: %v, not %v", i, asks, got, want)
		}
		for _, look := range looks(names) {
			if got, want := look.of(s), w.of(look); got != want {
				t.Fatalf("%v behind call %d of %v: %v, not %v", look, i, asks, got, want)
			}
		}
	}
}

// after is a new store of 1000 bytes behind calls.
func after(asks ...ask) *Store {
	s := New(1000)
	for _, a := range asks {
		a.of(s)
	}
	return s
}

// want makes a call and wants that error, and nothing beside it.
func want(t *testing.T, s *Store, a ask, e api.Errno) {
	t.Helper()
	if got := a.of(s); got.e != e || e != api.OK && got.told != "" {
		t.Errorf("%v: %v, not %d", a, got, e)
	}
}

// holds wants just those files in a store of 1000 bytes whose power is there: names and bytes in turn, by rising names.
func holds(t *testing.T, s *Store, files ...string) {
	t.Helper()
	var names []string
	free := 1000
	for i := 0; i < len(files); i += 2 {
		names = append(names, files[i])
		free -= len(files[i+1])
		if b, e := s.Read(files[i]); string(b) != files[i+1] || e != api.OK {
			t.Errorf("Read(%q) = %q, %d, not %q", files[i], head(b), e, files[i+1])
		}
	}
	if s.Down() || !slices.Equal(s.Names(), names) || s.Free() != free {
		t.Errorf("down: %v, names: %q, free: %d; not %q and %d", s.Down(), s.Names(), s.Free(), names, free)
	}
}

// gone wants that the power is gone.
func gone(t *testing.T, s *Store) {
	t.Helper()
	if !s.Down() || s.Free() != 0 || len(s.Names()) != 0 {
		t.Errorf("the power isn't gone: %v, %d, %q", s.Down(), s.Free(), s.Names())
	}
}

// P5.1: New at both ends and beyond them.
func TestNew(t *testing.T) {
	for _, capacity := range []int{lowest, -whole, -1, 0, whole + 1, 1 << 32, 1<<32 + 1, highest} {
		if New(capacity) != nil {
			t.Errorf("New(%d) is a store", capacity)
		}
	}
	for _, capacity := range []int{1, 2, 256, 1000, whole - 1, whole} {
		s := New(capacity)
		if s == nil {
			t.Fatalf("New(%d) is nil", capacity)
		}
		if s.Down() || s.Free() != capacity || len(s.Names()) != 0 {
			t.Errorf("New(%d): %v, %d, %q", capacity, s.Down(), s.Free(), s.Names())
		}
		want(t, s, read("a"), api.ErrNone)
		want(t, s, boot(), api.ErrState)
	}
}

// P5.1: two stores are two.
func TestStoresApart(t *testing.T) {
	one, two := after(), after()
	want(t, one, put("a", "12"), api.OK)
	holds(t, two)
	want(t, two, put("b", "3"), api.OK)
	one.Crash()
	holds(t, two, "b", "3")
	two.Fuse(1)
	want(t, one, boot(9), api.OK)
	want(t, one, sync("a"), api.OK)
	holds(t, one, "a", "12")
}

// anyCalls are calls of each kind that a store may refuse, at what is there, what isn't, and what is none.
func anyCalls() []ask {
	var calls []ask
	for _, name := range []string{"a", "b", "z", "", "1", "\xff"} {
		calls = append(calls, put(name, ""), put(name, "12"), put(name, strings.Repeat("x", 2000)))
		calls = append(calls, sync(name), remove(name), read(name))
		for _, n := range []int{lowest, -1, 0, 1, 2, 9, highest} {
			calls = append(calls, truncate(name, n))
		}
	}
	return calls
}

// P5.1: each call while the power is gone, by a crash or by the fuse: ErrDown comes ahead of all other errors, and nothing is done.
func TestGone(t *testing.T) {
	for _, s := range []*Store{
		after(put("a", "12"), sync("a"), put("b", "3"), crash()),
		after(put("a", "12"), sync("a"), fuse(1), put("b", "3")),
		after(put("a", "12"), sync("a"), put("b", "3"), fuse(1), sync("b")),
		after(put("a", "12"), sync("a"), put("b", "3"), crash(), crash()),
	} {
		for _, a := range anyCalls() {
			want(t, s, a, api.ErrDown)
		}
		gone(t, s)
		want(t, s, boot(0, 1), api.OK)
		holds(t, s, "a", "12", "b", "3")
	}
}

// P5.1: Append at what is no name, and at names.
func TestAppendName(t *testing.T) {
	long := strings.Repeat("a", 64)
	wide := strings.Repeat("\u8a9e", 64)
	for _, name := range []string{"", "1", "1a", "-a", "_a", "a b", "a/b", "a.b", " a", "a\x00", "\xff", "a\xff", "\xed\xa0\x80", long + "a", wide + "a", "a\n"} {
		for _, text := range []string{"", "12", strings.Repeat("x", 1001)} {
			s := after(put("a", "1"))
			want(t, s, put(name, text), api.ErrName)
			holds(t, s, "a", "1")
		}
	}
	for _, name := range []string{"a", "Z", "a1", "a-", "a_", "\u00e9", "\u8a9e", "\U0001f600", "\ufffd", "\u0080", long, wide} {
		s := after()
		want(t, s, put(name, "12"), api.OK)
		holds(t, s, name, "12")
	}
}

// P5.1: Append puts bytes behind, of any values; a file that isn't there is made, of no bytes, too.
func TestAppend(t *testing.T) {
	s := after()
	want(t, s, put("a", ""), api.OK)
	holds(t, s, "a", "")
	want(t, s, put("a", "12"), api.OK)
	want(t, s, put("a", ""), api.OK)
	holds(t, s, "a", "12")
	want(t, s, put("b", "\x00\xff"), api.OK)
	want(t, s, put("a", "\x00"), api.OK)
	want(t, s, put("a", "3"), api.OK)
	holds(t, s, "a", "12\x003", "b", "\x00\xff")
	if s.Append("c", nil) != api.OK || s.Append("c", []byte{}) != api.OK || s.Append("c", []byte("45")[1:1]) != api.OK {
		t.Error("Append of no bytes")
	}
	holds(t, s, "a", "12\x003", "b", "\x00\xff", "c", "")
}

// full is a store of 1000 bytes with as many files as there may be, of which the i-th has i%3 bytes, and their names.
func full(t *testing.T) (*Store, []string) {
	t.Helper()
	s := after()
	var names []string
	for i := range most {
		name := fmt.Sprintf("f%03d", i)
		want(t, s, put(name, "123"[:i%3]), api.OK)
		names = append(names, name)
	}
	return s, names
}

// P5.1: the 256th file and a 257th; one that is there while there are 256; one more behind a Remove and behind a crash.
func TestAppendFull(t *testing.T) {
	s, names := full(t)
	was := seen(s)
	if !slices.Equal(s.Names(), names) || s.Free() != 1000-255 {
		t.Errorf("%d names, %d free", len(s.Names()), s.Free())
	}
	for _, name := range []string{"a", "f", "f0000", "z"} {
		want(t, s, put(name, ""), api.ErrFull)
		want(t, s, put(name, "1"), api.ErrFull)
	}
	if seen(s) != was {
		t.Error("a refused Append left something")
	}
	want(t, s, put("f000", "x"), api.OK)
	want(t, s, put("f255", ""), api.OK)
	want(t, s, put("f001", "y"), api.OK)
	want(t, s, read("f001"), api.OK)
	want(t, s, remove("f100"), api.OK)
	want(t, s, put("z", ""), api.OK)
	want(t, s, put("f100", ""), api.ErrFull)
	want(t, s, sync("z"), api.OK)
	s.Crash()
	want(t, s, boot(1, 1), api.OK)
	if got := s.Names(); !slices.Equal(got, []string{"f000", "f001", "z"}) {
		t.Errorf("%q", got)
	}
	want(t, s, put("f100", ""), api.OK)
}

// P5.1: bytes that just fit, and one more; no bytes where nothing fits; what was cut and let go fits again.
func TestAppendSpace(t *testing.T) {
	for _, capacity := range []int{1, 2, 10, 1000, whole} {
		s := New(capacity)
		fits, more := strings.Repeat("x", capacity), strings.Repeat("x", capacity+1)
		want(t, s, put("a", more), api.ErrSpace)
		if len(s.Names()) != 0 || s.Free() != capacity {
			t.Errorf("of %d: %q, %d", capacity, s.Names(), s.Free())
		}
		want(t, s, put("a", fits), api.OK)
		if b, _ := s.Read("a"); string(b) != fits || s.Free() != 0 {
			t.Errorf("of %d: %d bytes, %d free", capacity, len(b), s.Free())
		}
		for _, name := range []string{"a", "b"} {
			want(t, s, put(name, "1"), api.ErrSpace)
			want(t, s, put(name, fits), api.ErrSpace)
		}
		want(t, s, put("a", ""), api.OK)
		want(t, s, put("b", ""), api.OK)
		if s.Free() != 0 || len(s.Names()) != 2 {
			t.Errorf("of %d: %q, %d", capacity, s.Names(), s.Free())
		}
		want(t, s, truncate("a", capacity-1), api.OK)
		want(t, s, put("b", "12"), api.ErrSpace)
		want(t, s, put("b", "1"), api.OK)
		want(t, s, put("a", "1"), api.ErrSpace)
		want(t, s, remove("a"), api.OK)
		want(t, s, put("c", fits), api.ErrSpace)
		want(t, s, put("c", fits[1:]), api.OK)
		want(t, s, put("c", "1"), api.ErrSpace)
	}
}

// P5.1: where several errors hold, the one named first is answered.
func TestOrderOfErrors(t *testing.T) {
	s, _ := full(t)
	large := strings.Repeat("x", 1001)
	for _, name := range []string{"", "1", "a b"} {
		want(t, s, put(name, large), api.ErrName)
		want(t, s, put(name, ""), api.ErrName)
	}
	want(t, s, put("z", large), api.ErrFull)
	want(t, s, put("f000", large), api.ErrSpace)
	for _, n := range []int{lowest, -1, 0, 1, highest} {
		want(t, s, truncate("z", n), api.ErrNone)
		want(t, s, truncate("1", n), api.ErrNone)
	}
	want(t, s, truncate("f000", 1), api.ErrArg)
	s.Crash()
	for _, a := range []ask{put("", large), put("z", large), put("f000", large), truncate("z", -1), truncate("f000", -1), sync("z"), remove(""), read("1")} {
		want(t, s, a, api.ErrDown)
	}
}

// P5.1: Sync, Truncate, Remove and Read at a file that isn't there: never made, let go, gone by a crash, refused, no name.
func TestNoFile(t *testing.T) {
	s := after(put("a", "12"), put("b", "3"), remove("b"), put("c", "4"), crash(), boot(2), put("1", "x"), put("d", strings.Repeat("x", 999)))
	for _, name := range []string{"b", "c", "d", "1", "", "A", "aa", "a ", "\xff", strings.Repeat("a", 65)} {
		for _, a := range []ask{sync(name), truncate(name, 0), remove(name), read(name)} {
			want(t, s, a, api.ErrNone)
		}
	}
	holds(t, s, "a", "12")
}

// P5.1: Remove lets a file go at once: no crash brings it again, and one that is made anew has nothing of it.
func TestRemove(t *testing.T) {
	for _, safe := range []ask{read("a"), sync("a")} {
		s := after(put("a", "12"), safe, put("b", "3"), sync("b"), remove("a"))
		holds(t, s, "b", "3")
		s.Crash()
		want(t, s, boot(9, 9), api.OK)
		holds(t, s, "b", "3")
		s = after(put("a", "12"), safe, remove("a"), put("a", "45"))
		holds(t, s, "a", "45")
		s.Crash()
		want(t, s, boot(1), api.OK)
		holds(t, s, "a", "4")
		s = after(put("a", "12"), safe, remove("a"), put("a", "45"), crash(), boot())
		holds(t, s)
	}
}

// P5.1: Truncate at each length of a file, and outside, of bytes that are safe and that aren't.
func TestTruncate(t *testing.T) {
	for safe := range 6 {
		ahead := []ask{put("a", "12345"[:safe]), sync("a"), put("a", "12345"[safe:]), put("b", "6"), sync("b")}
		for _, n := range []int{lowest, -6, -1, 6, 7, 1000, highest} {
			s := after(ahead...)
			want(t, s, truncate("a", n), api.ErrArg)
			holds(t, s, "a", "12345", "b", "6")
			s.Crash()
			want(t, s, boot(1), api.OK)
			holds(t, s, "a", "12345"[:min(safe+1, 5)], "b", "6")
		}
		for n := range 6 {
			s := after(append(ahead, truncate("a", n))...)
			holds(t, s, "a", "12345"[:n], "b", "6")
			want(t, s, truncate("a", n+1), api.ErrArg)
			want(t, s, put("a", "xy"), api.OK)
			holds(t, s, "a", "12345"[:n]+"xy", "b", "6")
			s.Crash()
			want(t, s, boot(1), api.OK)
			left := "12345"[:n] + "xy"
			holds(t, s, "a", left[:min(safe, n)+1], "b", "6")
		}
	}
	s := after(put("a", ""))
	want(t, s, truncate("a", 0), api.OK)
	want(t, s, truncate("a", 1), api.ErrArg)
	holds(t, s, "a", "")
}

// P5.1: Names are rising byte by byte, a beginning ahead of what goes on, in whatever order files were made.
func TestNames(t *testing.T) {
	rising := []string{"A", "Z", "Za", "a", "a-", "a0", "a00", "a1", "a10", "a2", "aZ", "a_", "aa", "aaa", "ab", "a\u00e9", "b", "z", "\u0080", "\u00e9", "\u8a9e", "\u8a9ea", "\ufffd", "\U0001f600"}
	draw := mixer(1)
	for range 50 {
		s := after()
		var there []string
		names := slices.Clone(rising)
		for len(names) > 0 {
			at := draw.below(len(names))
			want(t, s, put(names[at], ""), api.OK)
			there = append(there, names[at])
			names = slices.Delete(names, at, at+1)
			if draw.below(4) == 0 {
				want(t, s, remove(there[0]), api.OK)
				there = there[1:]
			}
			var told []string
			for _, name := range rising {
				if slices.Contains(there, name) {
					told = append(told, name)
				}
			}
			for range 3 {
				if got := s.Names(); !slices.Equal(got, told) {
					t.Fatalf("%q, not %q", got, told)
				}
			}
		}
	}
}

// P5.1: Free behind each call.
func TestFree(t *testing.T) {
	s := New(10)
	for _, c := range []struct {
		a    ask
		free int
	}{
		{put("a", "123"), 7}, {put("b", ""), 7}, {sync("a"), 7}, {put("a", "45"), 5}, {put("c", "6"), 4},
		{put("c", "12345"), 4}, {put("1", "1"), 4}, {truncate("a", 6), 4}, {truncate("a", 4), 5}, {truncate("a", 2), 7},
		{remove("b"), 7}, {remove("b"), 7}, {remove("c"), 8}, {read("a"), 8}, {boot(), 8}, {put("d", "1234"), 4}, {put("a", "5678"), 0},
		{fuse(2), 0}, {truncate("a", 5), 1}, {put("a", "9"), 0}, {boot(1, 2), 5}, {crash(), 0}, {boot(), 5}, {remove("d"), 7}, {remove("a"), 10},
	} {
		c.a.of(s)
		if got := s.Free(); got != c.free {
			t.Fatalf("Free() = %d behind %v, not %d", got, c.a, c.free)
		}
	}
}

// P5.1 and R5: a call that is refused, at whatever time, changes nothing: neither what is seen, nor the fuse, nor what is safe.
func TestRefusedLeavesAll(t *testing.T) {
	story := []ask{
		put("a", "12"), sync("a"), put("a", "34"), put("b", "56"), put("c", ""), fuse(7), truncate("b", 1), sync("b"), put("b", "78"), truncate("a", 3),
		sync("c"), remove("c"), put("a", "9"), crash(), boot(1, 1), put("b", "0"), fuse(1), sync("b"), boot(0, 1), put("c", "1"), crash(), fuse(2), boot(0, 0, 1), sync("c"), remove("a"), boot(),
	}
	refused := []ask{put("", "1"), put("1", ""), put("a", strings.Repeat("x", 1001)), put("new", strings.Repeat("x", 1001)), sync("z"), sync(""), truncate("z", 0), truncate("a", -1), truncate("a", 99), truncate("b", highest), remove("z"), read("z")}
	plain, crossed := after(), after()
	for i, a := range story {
		for _, r := range refused {
			if got := r.of(crossed); got.e == api.OK || got.told != "" {
				t.Errorf("%v ahead of call %d: %v", r, i, got)
			}
		}
		if crossed.Down() {
			for _, down := range anyCalls() {
				want(t, crossed, down, api.ErrDown)
			}
		} else {
			want(t, crossed, boot(9, 9, 9), api.ErrState)
		}
		if got, same := a.of(crossed), a.of(plain); got != same || seen(crossed, "a", "b", "c") != seen(plain, "a", "b", "c") {
			t.Fatalf("behind call %d, %v: %v and %v\n%s\n%s", i, a, got, same, seen(crossed), seen(plain))
		}
	}
}

// P5.1, P5.2 and R4: what is handed in and what is told may be written over; what is handed in isn't changed, nor what lies behind it.
func TestMemory(t *testing.T) {
	s := after()
	memory := []byte("12345678")
	if s.Append("a", memory[:2]) != api.OK || s.Append("b", memory[2:4]) != api.OK || string(memory) != "12345678" {
		t.Errorf("%q", memory)
	}
	overwrite(memory)
	holds(t, s, "a", "12", "b", "34")
	for range 3 {
		b, _ := s.Read("a")
		c, _ := s.Read("a")
		overwrite(b)
		if string(c) != "12" {
			t.Errorf("%q", c)
		}
	}
	holds(t, s, "a", "12", "b", "34")
	told, _ := s.Read("a")
	want(t, s, truncate("a", 1), api.OK)
	want(t, s, put("a", "9"), api.OK)
	if string(told) != "12" {
		t.Errorf("%q", told)
	}
	_ = append(told[:1], "zzz"...)
	names := s.Names()
	names[0], names[1] = "x", "y"
	_ = append(names[:0], "zz")
	holds(t, s, "a", "19", "b", "34")
	s.Crash()
	keep := []int{1, 2, 3, 4}
	want(t, s, ask{kind: askBoot, keep: keep[:1]}, api.OK)
	if !slices.Equal(keep, []int{1, 2, 3, 4}) {
		t.Errorf("%d", keep)
	}
	keep[0] = 9
	holds(t, s, "a", "1")
}

// P5.1 and R4: a file is its own: what is cut and grown anew, and what is grown far, leaves the others, and what was told, as it was.
func TestFilesApart(t *testing.T) {
	s := New(whole)
	var told [][]byte
	text := ""
	for i := range 300 {
		b := bytes.Repeat([]byte{byte(i)}, i%5+1)
		if s.Append("a", b) != api.OK || s.Append("b", b[:1]) != api.OK {
			t.Fatal("Append")
		}
		text += string(b)
		got, _ := s.Read("a")
		if string(got) != text {
			t.Fatalf("behind %d: %q", i, head(got))
		}
		told = append(told, got)
		overwrite(b)
	}
	want(t, s, truncate("a", 100), api.OK)
	want(t, s, put("a", strings.Repeat("z", 1000)), api.OK)
	for i, b := range told {
		if !strings.HasPrefix(text, string(b)) {
			t.Fatalf("what was told at %d is another: %q", i, head(b))
		}
	}
	if b, _ := s.Read("b"); len(b) != 300 || b[299] != 299%256 || b[1] != 1 {
		t.Errorf("%d bytes: %q", len(b), head(b))
	}
}

// P5.1: Fuse below 1 is one at no deed, and takes the one that was set.
func TestFuseAtNone(t *testing.T) {
	for _, n := range []int{lowest, -2, -1, 0} {
		for _, set := range []ask{read("a"), fuse(1), fuse(3)} {
			s := after(set, fuse(n))
			for range 20 {
				want(t, s, put("a", "12"), api.OK)
				want(t, s, sync("a"), api.OK)
				want(t, s, truncate("a", 1), api.OK)
				want(t, s, remove("a"), api.OK)
			}
			holds(t, s)
		}
	}
}

// deeds are one deed of each kind at a store with file a of "1234", of which "12" is safe.
func deeds() []ask {
	return []ask{put("a", "56"), put("b", "56"), put("b", ""), sync("a"), truncate("a", 1), truncate("a", 3), remove("a")}
}

// P5.1 and P5.2: a fuse of n at each kind of deed: the deeds ahead of the n-th are done; of that one just what is appended is there, unsafe; it answers ErrDown, and so does each call behind it.
func TestFuseAtDeed(t *testing.T) {
	for ahead := range 5 {
		for _, last := range deeds() {
			for _, keep := range []int{-1, 0, 1, 2, 3, 4, 9} {
				s := after(put("a", "12"), sync("a"), put("a", "34"), fuse(ahead+1))
				for range ahead {
					want(t, s, put("a", ""), api.OK)
				}
				if s.Down() {
					t.Fatalf("the fuse of %d went ahead of its deed", ahead+1)
				}
				want(t, s, last, api.ErrDown)
				gone(t, s)
				want(t, s, sync("a"), api.ErrDown)
				want(t, s, read("a"), api.ErrDown)
				want(t, s, boot(keep, keep), api.OK)
				a := "1234"
				if last.kind == askAppend && last.name == "a" {
					a += "56"
				}
				files := []string{"a", a[:2+min(max(keep, 0), len(a)-2)]}
				if b := last.text[:min(max(keep, 0), len(last.text))]; last.name == "b" && b != "" {
					files = append(files, "b", b)
				}
				holds(t, s, files...)
			}
		}
	}
}

// P5.1: a deed of each kind counts as one, in whatever order.
func TestDeedsCount(t *testing.T) {
	all := []ask{put("a", "12"), put("a", ""), put("b", ""), sync("a"), sync("a"), sync("b"), truncate("a", 2), truncate("a", 1), truncate("b", 0), remove("b"), put("b", "3"), sync("b"), remove("a")}
	for n := 1; n <= len(all)+2; n++ {
		s := after(fuse(n))
		for i, a := range all {
			e := api.OK
			if i+1 >= n {
				e = api.ErrDown
			}
			want(t, s, a, e)
		}
		if s.Down() != (n <= len(all)) {
			t.Errorf("a fuse of %d behind %d deeds: %v", n, len(all), s.Down())
		}
	}
	s := after(fuse(highest))
	for _, a := range all {
		want(t, s, a, api.OK)
	}
}

// P5.1: what is no deed: a call with another error, Read, Names, Free, Down, a Boot that is refused.
func TestNoDeeds(t *testing.T) {
	s := after(put("a", "12"), sync("a"), fuse(2))
	none := func() {
		t.Helper()
		for range 3 {
			want(t, s, put("1", "3"), api.ErrName)
			want(t, s, put("a", strings.Repeat("x", 1001)), api.ErrSpace)
			want(t, s, sync("z"), api.ErrNone)
			want(t, s, truncate("z", 0), api.ErrNone)
			want(t, s, truncate("a", 99), api.ErrArg)
			want(t, s, truncate("a", -1), api.ErrArg)
			want(t, s, remove("z"), api.ErrNone)
			want(t, s, read("z"), api.ErrNone)
			want(t, s, read("a"), api.OK)
			want(t, s, boot(1), api.ErrState)
			seen(s)
		}
	}
	none()
	want(t, s, put("a", "3"), api.OK)
	none()
	want(t, s, put("a", "4"), api.ErrDown)
	gone(t, s)
	s, names := full(t)
	s.Fuse(1)
	want(t, s, put("z", ""), api.ErrFull)
	want(t, s, remove(names[0]), api.ErrDown)
}

// P5.1: a fuse that is set anew is counted from then on, whatever the other one was.
func TestFuseAnew(t *testing.T) {
	for first := 1; first < 6; first++ {
		for between := range first {
			for second := 1; second < 6; second++ {
				s := after(put("a", "1"), fuse(first))
				for range between {
					want(t, s, sync("a"), api.OK)
				}
				s.Fuse(second)
				for range second - 1 {
					want(t, s, sync("a"), api.OK)
				}
				want(t, s, sync("a"), api.ErrDown)
			}
		}
	}
}

// never wants that no fuse is there any more.
func never(t *testing.T, s *Store) {
	t.Helper()
	for range 20 {
		want(t, s, put("never", ""), api.OK)
	}
	want(t, s, remove("never"), api.OK)
}

// P5.1 and P5.2: a fuse goes with the power that it takes, and a crash ahead of it takes it.
func TestCrashTakesFuse(t *testing.T) {
	for _, n := range []int{1, 2, 3, 7} {
		s := after(fuse(n), crash(), boot())
		never(t, s)
		s = after(put("a", "1"), fuse(n), sync("a"), crash(), boot())
		never(t, s)
		s = after(put("a", "1"), fuse(n))
		for range n - 1 {
			want(t, s, sync("a"), api.OK)
		}
		want(t, s, sync("a"), api.ErrDown)
		want(t, s, boot(1), api.OK)
		never(t, s)
		holds(t, s, "a", "1")
	}
}

// P5.1 and P5.2: while the power is gone a fuse can be set: calls that are refused then don't count, Boot leaves it, a further one is set in its place, a crash takes it.
func TestFuseWhileGone(t *testing.T) {
	for n := 1; n < 5; n++ {
		s := after(put("a", "1"), crash(), fuse(n))
		for range 9 {
			want(t, s, put("a", "2"), api.ErrDown)
			want(t, s, sync("a"), api.ErrDown)
		}
		gone(t, s)
		want(t, s, boot(1), api.OK)
		holds(t, s, "a", "1")
		for range n - 1 {
			want(t, s, sync("a"), api.OK)
		}
		want(t, s, sync("a"), api.ErrDown)
		want(t, s, boot(), api.OK)
		never(t, s)
		s = after(crash(), fuse(n), crash())
		gone(t, s)
		want(t, s, boot(), api.OK)
		never(t, s)
		s = after(crash(), fuse(9), fuse(n), boot())
		for range n - 1 {
			want(t, s, put("a", ""), api.OK)
		}
		want(t, s, put("a", ""), api.ErrDown)
		s = after(fuse(1), put("a", "1"), fuse(n), boot(1))
		for range n - 1 {
			want(t, s, sync("a"), api.OK)
		}
		want(t, s, sync("a"), api.ErrDown)
		for _, none := range []int{lowest, -1, 0} {
			never(t, after(crash(), fuse(n), fuse(none), boot()))
			never(t, after(crash(), fuse(none), boot()))
		}
	}
}

// P5.2: Boot while the power is there, whatever is told.
func TestBootWithPower(t *testing.T) {
	for _, keep := range [][]int{nil, {}, {0}, {1, 1}, {-1, lowest, highest}} {
		s := after(put("a", "12"), sync("a"), put("a", "34"), put("b", ""))
		for range 2 {
			want(t, s, boot(keep...), api.ErrState)
			holds(t, s, "a", "1234", "b", "")
		}
		s.Crash()
		want(t, s, boot(1), api.OK)
		want(t, s, boot(keep...), api.ErrState)
		holds(t, s, "a", "123")
	}
}

// grown are files of each kind: synced and grown, never synced, synced with no bytes, never synced with none, all safe, cut to less than was safe and grown, cut to nothing.
func grown() []ask {
	return []ask{
		put("a", "12"), sync("a"), put("a", "345"),
		put("b", "123"),
		put("c", ""), sync("c"),
		put("d", ""),
		put("e", "12"), sync("e"),
		put("f", "1234"), sync("f"), truncate("f", 2), put("f", "567"),
		put("g", "12"), sync("g"), truncate("g", 0),
		put("h", "12"), truncate("h", 0),
		put("i", ""), sync("i"), put("i", "12"),
		put("j", "1"), put("j", "2"), put("j", "3"), truncate("j", 2),
	}
}

// P5.2: Boot with as many numbers as files, with fewer, more and none, below 0, 0, beyond what isn't safe.
func TestBoot(t *testing.T) {
	least := []string{"a", "12", "c", "", "e", "12", "f", "12", "g", "", "i", ""}
	all := []string{"a", "12345", "b", "123", "c", "", "e", "12", "f", "12567", "g", "", "i", "12", "j", "12"}
	for _, c := range []struct {
		keep  []int
		files []string
	}{
		{nil, least},
		{[]int{}, least},
		{make([]int, 10), least},
		{make([]int, 30), least},
		{[]int{-1, -1, -2, lowest, -1, lowest, -3, -1, -9, lowest}, least},
		{[]int{3, 3, 0, 0, 0, 3, 0, 0, 2, 2}, all},
		{[]int{4, 4, 1, 1, 1, 4, 1, 1, 3, 3}, all},
		{slices.Repeat([]int{highest}, 10), all},
		{slices.Repeat([]int{highest}, 300), all},
		{[]int{1, 1, 1, 1, 1, 1, 1, 1, 1, 1}, []string{"a", "123", "b", "1", "c", "", "e", "12", "f", "125", "g", "", "i", "1", "j", "1"}},
		{[]int{2, 2, 2, 2, 2, 2, 2, 2, 2, 2, 2}, []string{"a", "1234", "b", "12", "c", "", "e", "12", "f", "1256", "g", "", "i", "12", "j", "12"}},
		{[]int{1}, []string{"a", "123", "c", "", "e", "12", "f", "12", "g", "", "i", ""}},
		{[]int{0, 2}, []string{"a", "12", "b", "12", "c", "", "e", "12", "f", "12", "g", "", "i", ""}},
		{[]int{0, -1, 0, 0, 0, 2}, []string{"a", "12", "c", "", "e", "12", "f", "1256", "g", "", "i", ""}},
		{[]int{0, 0, 0, 0, 0, 0, 0, 0, 0, 1}, append(slices.Clone(least), "j", "1")},
		{[]int{0, 0, 0, 0, 0, 0, 0, 0, 1, 0, 5}, []string{"a", "12", "c", "", "e", "12", "f", "12", "g", "", "i", "1"}},
	} {
		s := after(grown()...)
		s.Crash()
		gone(t, s)
		want(t, s, boot(c.keep...), api.OK)
		holds(t, s, c.files...)
		for range 2 {
			s.Crash()
			gone(t, s)
			want(t, s, boot(), api.OK)
			holds(t, s, c.files...)
		}
	}
}

// P5.2: what is told is for the files by rising names, not by the order in which they were made, nor for those that stay alone.
func TestBootByNames(t *testing.T) {
	s := after(put("c", "123"), put("a", "456"), put("b", "789"), put("aa", ""), crash(), boot(0, 9, 1, 2))
	holds(t, s, "b", "7", "c", "12")
	s, names := full(t)
	keep := make([]int, most)
	var files []string
	for i, name := range names {
		want(t, s, put(name, "xy"), api.OK)
		keep[i] = i % 5
		if text := ("123"[:i%3] + "xy")[:min(i%5, i%3+2)]; text != "" {
			files = append(files, name, text)
		}
	}
	s.Crash()
	want(t, s, boot(keep...), api.OK)
	holds(t, s, files...)
}

// P5.2: behind a Boot all that is there is safe, that it is there, too: a file that came through by its bytes stays when they are cut.
func TestBootMakesSafe(t *testing.T) {
	s := after(put("a", "123"), crash(), boot(2), put("a", "4"), crash(), boot())
	holds(t, s, "a", "12")
	s = after(put("a", "123"), crash(), boot(2), truncate("a", 0), crash(), boot())
	holds(t, s, "a", "")
	s = after(put("a", "123"), crash(), boot(2), truncate("a", 1), put("a", "56"), crash(), boot(1))
	holds(t, s, "a", "15")
	s = after(put("a", ""), sync("a"), crash(), boot(), put("a", "1"), crash(), boot())
	holds(t, s, "a", "")
	s = after(put("a", "1"), sync("a"), remove("a"), put("a", ""), crash(), boot(1))
	holds(t, s)
}

// P5.3: the chapter's example.
func TestExample(t *testing.T) {
	s := after(put("a", "ab"), sync("a"), put("a", "cd"), crash(), boot(1))
	holds(t, s, "a", "abc")
}

// fewCalls are what the rows of all calls are made of.
func fewCalls() []ask {
	return []ask{
		put("a", "12"), put("b", "3"), put("a", ""), put("b", "4567"), sync("a"), truncate("a", 1), truncate("b", 2), remove("a"),
		crash(), fuse(1), fuse(2), boot(), boot(1), boot(2, 1), read("b"),
	}
}

// P5.1 and P5.2: each row of four calls out of few, and a crash behind it, against the words.
func TestAllRows(t *testing.T) {
	few := fewCalls()
	size := len(few)
	for row := range size * size * size * size {
		check(t, 6, few[row/size/size/size], few[row/size/size%size], few[row/size%size], few[row%size], crash(), boot(1, 1), put("a", "8"))
	}
}

// drawn draws a call, of which most are deeds at few files.
func drawn(draw *mixer) ask {
	names := []string{"a", "b", "aa", "B", "c1", "c1", "a", "a", "1", "", "\u00e9", "a b"}
	name := names[draw.below(len(names))]
	texts := []string{"", "1", "23", "456", "\x00\xff", "0123456789", strings.Repeat("xyz", 9), strings.Repeat("z", 90)}
	nums := []int{lowest, -1, 0, 1, 2, 3, 5, 9, 12, 30, highest}
	switch kind := draw.below(24); {
	case kind < 9:
		return put(name, texts[draw.below(len(texts))])
	case kind < 13:
		return sync(name)
	case kind < 16:
		return truncate(name, nums[draw.below(len(nums))])
	case kind < 17:
		return remove(name)
	case kind < 18:
		return crash()
	case kind < 20:
		return fuse(nums[draw.below(len(nums))])
	}
	keep := make([]int, draw.below(8))
	for i := range keep {
		keep[i] = nums[draw.below(len(nums))]
	}
	return boot(keep...)
}

// P5.1, P5.2 and P1: long drawn rows of calls against the words; and the same again.
func TestAnyCalls(t *testing.T) {
	draw := mixer(2)
	for round := range 600 {
		asks := make([]ask, 80)
		for i := range asks {
			asks[i] = drawn(&draw)
		}
		for range 2 {
			check(t, []int{1, 20, 100, 1000, whole}[round%5], asks...)
		}
	}
}

// P5.1 and P5.2: drawn calls at many files, up to as many as there may be and beyond, against the words.
func TestManyFiles(t *testing.T) {
	draw := mixer(3)
	var asks []ask
	for i := range 1600 {
		a := drawn(&draw)
		if a.kind <= askRemove {
			a.name = fmt.Sprintf("n%d", draw.below(500))
		}
		if a.kind == askRemove || i < 1300 && a.kind > askRemove {
			a.kind = askSync
		}
		asks = append(asks, a)
	}
	check(t, 30000, asks...)
	s, full := New(30000), false
	for _, a := range asks {
		full = a.of(s).e == api.ErrFull || full
	}
	if !full {
		t.Error("there never were too many files")
	}
}

// promised is what is known of a file: all that was appended and not cut, and how much of it was synced.
type promised struct {
	text   string
	synced int
	sure   bool
}

// follow is what is known behind a call that went well, or an Append at which the power went.
func follow(files map[string]promised, a ask) {
	f := files[a.name]
	switch a.kind {
	case askAppend:
		f.text += a.text
	case askSync:
		f.synced, f.sure = len(f.text), true
	case askTruncate:
		f.text, f.synced = f.text[:a.n], min(f.synced, a.n)
	case askRemove:
		delete(files, a.name)
		return
	}
	files[a.name] = f
}

// wantPromised wants of each file what was synced, and a beginning of what was appended; and no other file. What is there is known then.
func wantPromised(t *testing.T, s *Store, files map[string]promised) {
	t.Helper()
	for _, name := range s.Names() {
		if _, known := files[name]; !known {
			t.Fatalf("%q is there", name)
		}
	}
	for name, f := range files {
		b, e := s.Read(name)
		if e != api.OK && (e != api.ErrNone || f.sure) {
			t.Fatalf("%q: %d, and it was synced: %v", name, e, f.sure)
		}
		if !strings.HasPrefix(string(b), f.text[:f.synced]) || !strings.HasPrefix(f.text, string(b)) {
			t.Fatalf("%q is %q, not between %q and %q", name, b, f.text[:f.synced], f.text)
		}
		if e != api.OK {
			delete(files, name)
			continue
		}
		files[name] = promised{string(b), len(b), true}
	}
}

// P5.3: behind any crash, with any numbers told, what was synced, and not cut or let go, is there, and what there is is a beginning of what was appended.
func TestSyncedStays(t *testing.T) {
	draw := mixer(4)
	for range 400 {
		s := New(200)
		files := map[string]promised{}
		for range 120 {
			a := drawn(&draw)
			was := s.Down()
			e := a.of(s).e
			switch {
			case a.kind == askBoot && e == api.OK:
				wantPromised(t, s, files)
			case a.kind <= askRemove && (e == api.OK || a.kind == askAppend && e == api.ErrDown && !was):
				follow(files, a)
			}
		}
	}
}

// P5.3: a crash at each deed of a row, with each number kept: what was synced ahead of it is there.
func TestCrashAtEachDeed(t *testing.T) {
	row := []ask{put("a", "12"), sync("a"), put("a", "345"), put("b", "67"), sync("b"), truncate("a", 4), sync("a"), put("b", "8"), truncate("a", 1), put("a", "9"), remove("b"), put("b", "0"), sync("b"), sync("a")}
	for n := 1; n <= len(row); n++ {
		for keep := range 5 {
			s := after(fuse(n))
			files := map[string]promised{}
			for i, a := range row[:n] {
				e := a.of(s).e
				if (e == api.OK) != (i+1 < n) {
					t.Fatalf("a fuse of %d: %v: %d", n, a, e)
				}
				if e == api.OK || a.kind == askAppend {
					follow(files, a)
				}
			}
			want(t, s, boot(keep, keep), api.OK)
			wantPromised(t, s, files)
		}
	}
}
