package label

import (
	"slices"
	"strings"
	"testing"

	"usufruct/api"
)

// piece is what a text has at a place: a rune, or a byte that is none's (-1), and the bytes that tell it.
type piece struct {
	r    rune
	text string
}

// lead tells, by a first byte, how many bytes a rune has, and between which bounds the second one is, so that none is told longer than need be, none is half of a pair, none is above the last.
func lead(b byte) (size int, low, high byte) {
	switch {
	case b < 0x80:
		return 1, 0, 0
	case b < 0xc2:
		return 0, 0, 0
	case b < 0xe0:
		return 2, 0x80, 0xbf
	case b == 0xe0:
		return 3, 0xa0, 0xbf
	case b == 0xed:
		return 3, 0x80, 0x9f
	case b < 0xf0:
		return 3, 0x80, 0xbf
	case b == 0xf0:
		return 4, 0x90, 0xbf
	case b < 0xf4:
		return 4, 0x80, 0xbf
	case b == 0xf4:
		return 4, 0x80, 0x8f
	}
	return 0, 0, 0
}

// first is the first piece of a text that isn't empty.
func first(s string) piece {
	none := piece{-1, s[:1]}
	size, low, high := lead(s[0])
	if size == 0 || size > len(s) {
		return none
	}
	if size == 1 {
		return piece{rune(s[0]), s[:1]}
	}
	r := rune(s[0]) & (0x7f >> size)
	for i := 1; i < size; i++ {
		if i > 1 {
			low, high = 0x80, 0xbf
		}
		if s[i] < low || s[i] > high {
			return none
		}
		r = r<<6 | rune(s[i]&0x3f)
	}
	return piece{r, s[:size]}
}

// pieces reads a text byte by byte, by the form of UTF-8 alone.
func pieces(s string) []piece {
	var all []piece
	for s != "" {
		p := first(s)
		all = append(all, p)
		s = s[len(p.text):]
	}
	return all
}

const (
	asciiLetters = "abcdefghijklmnopqrstuvwxyzABCDEFGHIJKLMNOPQRSTUVWXYZ"
	asciiOthers  = "0123456789-_"
)

func isLetter(p piece) bool {
	return p.r >= 0x80 || p.r >= 0 && strings.Contains(asciiLetters, p.text)
}

func isPart(p piece) bool {
	return isLetter(p) || p.r >= 0 && strings.Contains(asciiOthers, p.text)
}

func wantGood(s string) bool {
	all := pieces(s)
	for _, p := range all {
		if !isPart(p) {
			return false
		}
	}
	return len(all) >= 1 && len(all) <= api.MaxName && isLetter(all[0])
}

func wantMask(s string) string {
	masked := ""
	for _, p := range pieces(s) {
		if isPart(p) {
			masked += p.text
		} else {
			masked += "_"
		}
	}
	return masked
}

// checkText holds the three calls over one text against what its pieces tell.
func checkText(t *testing.T, s string) {
	t.Helper()
	if got, want := Good(s), wantGood(s); got != want {
		t.Errorf("Good(%q) = %v", s, got)
	}
	if got, want := Runes(s), len(pieces(s)); got != want {
		t.Errorf("Runes(%q) = %d, not %d", s, got, want)
	}
	masked, want := Mask(s), wantMask(s)
	if masked != want {
		t.Errorf("Mask(%q) = %q, not %q", s, masked, want)
	}
	if again := Mask(masked); again != masked {
		t.Errorf("Mask(%q) = %q", masked, again)
	}
}

// edgeBytes are ends of the rows of bytes that the form of UTF-8 tells apart, with ASCII of each kind.
func edgeBytes() []byte {
	return []byte{
		'a', '0', '/', ' ', 0x7f,
		0x80, 0x8f, 0x90, 0x9f, 0xa0, 0xbd, 0xbf,
		0xc0, 0xc1, 0xc2, 0xdf, 0xe0, 0xe1, 0xec, 0xed, 0xee, 0xef, 0xf0, 0xf1, 0xf3, 0xf4, 0xf5, 0xff,
	}
}

// brokenTexts are texts all of whose bytes are no rune's, by what they are.
func brokenTexts() map[string]string {
	return map[string]string{
		"a byte that goes on alone":        "\x80",
		"the last byte that goes on":       "\xbf",
		"a rune of two bytes cut":          "\xc3",
		"a rune of three bytes cut":        "\xe8\xaa",
		"a rune of three bytes cut to one": "\xe8",
		"a rune of four bytes cut":         "\xf0\x9f\x98",
		"a letter told by two bytes":       "\xc1\xa1",
		"0 told by two bytes":              "\xc0\x80",
		"/ told by two bytes":              "\xc0\xaf",
		"a letter told by three bytes":     "\xe0\x81\xa1",
		"the rune e9 told by three bytes":  "\xe0\x83\xa9",
		"a letter told by four bytes":      "\xf0\x80\x81\xa1",
		"the rune 8a9e told by four bytes": "\xf0\x88\xaa\x9e",
		"the first half of a pair":         "\xed\xa0\x80",
		"the last half of a pair":          "\xed\xbf\xbf",
		"both halves of a pair":            "\xed\xa0\xbd\xed\xb8\x80",
		"one above the last rune":          "\xf4\x90\x80\x80",
		"far above the last rune":          "\xf5\x80\x80\x80",
		"a rune of five bytes":             "\xf8\x88\x80\x80\x80",
		"bytes that begin nothing":         "\xfe\xff",
	}
}

// P2.1: Good at ordinary names, at the edges, and at what is none.
func TestGood(t *testing.T) {
	for _, c := range []struct {
		s    string
		good bool
	}{
		{"a", true}, {"z", true}, {"A", true}, {"Z", true}, {"pay", true}, {"Pay", true}, {"aZ09-_", true},
		{"a-", true}, {"a_", true}, {"a--__", true}, {"a0", true}, {"a9", true},
		{"é", true}, {"ж", true}, {"語", true}, {"😀", true}, {"éж語😀", true}, {"é9", true}, {"aé", true},
		{"\u0080", true}, {"\u007f", false}, {"a\u0080", true}, {"a\u007f", false},
		{"\u00a0", true}, {"\u2028", true}, {"\u07ff", true}, {"\u0800", true}, {"\ud7ff", true}, {"\ue000", true},
		{"\ufffd", true}, {"a\ufffd", true}, {"\ufffda", true}, {"\ufffe", true}, {"\uffff", true},
		{"\U00010000", true}, {"\U0010ffff", true}, {"a\U0010ffff", true},
		{"", false}, {"0", false}, {"9", false}, {"1a", false}, {"-", false}, {"-a", false}, {"_", false}, {"_a", false},
		{" ", false}, {" a", false}, {"a ", false}, {"a b", false}, {"a\x00", false}, {"\x00", false}, {"a\n", false}, {"a\t", false},
		{"a/b", false}, {"/", false}, {"/a", false}, {"a/", false}, {"a.b", false}, {"a,b", false}, {"a:b", false}, {"a=b", false},
		{"@", false}, {"a@", false}, {"[", false}, {"a[", false}, {"`", false}, {"a`", false}, {"{", false}, {"a{", false},
	} {
		if got := Good(c.s); got != c.good {
			t.Errorf("Good(%q) = %v", c.s, got)
		}
	}
}

// P2.1: MaxName counts runes: of one byte, of two, three and four, and of a mix.
func TestGoodAtMaxName(t *testing.T) {
	if api.MaxName != 64 {
		t.Fatalf("MaxName is %d", api.MaxName)
	}
	for _, r := range []string{"a", "Z", "é", "語", "\ufffd", "😀"} {
		for n := range 140 {
			s := strings.Repeat(r, n)
			if got, want := Good(s), n >= 1 && n <= 64; got != want {
				t.Errorf("Good of %d times %q = %v", n, r, got)
			}
		}
	}
	for _, end := range []string{"a", "0", "-", "_", "語", "😀"} {
		if s := strings.Repeat("é", 63) + end; !Good(s) {
			t.Errorf("Good(%q) = false", s)
		}
		if s := strings.Repeat("é", 64) + end; Good(s) {
			t.Errorf("Good(%q) = true", s)
		}
	}
	for _, end := range []string{" ", "/", "\xff"} {
		if s := strings.Repeat("é", 63) + end; Good(s) {
			t.Errorf("Good(%q) = true", s)
		}
	}
}

// P2.1: a text that has a byte that is no rune's is no name, wherever it is; Runes counts each such byte.
func TestBrokenTexts(t *testing.T) {
	for what, s := range brokenTexts() {
		for _, whole := range []string{s, "a" + s, s + "a", "a" + s + "b", "é" + s + "語", "\ufffd" + s, s + "\ufffd"} {
			if Good(whole) {
				t.Errorf("%s: Good(%q) = true", what, whole)
			}
			checkText(t, whole)
		}
		if got := Runes(s); got != len(s) {
			t.Errorf("%s: Runes(%q) = %d, not %d", what, s, got, len(s))
		}
		if got, want := Mask("a"+s+"b"), "a"+strings.Repeat("_", len(s))+"b"; got != want {
			t.Errorf("%s: Mask = %q, not %q", what, got, want)
		}
	}
}

// P2.1: Runes.
func TestRunes(t *testing.T) {
	for _, c := range []struct {
		s string
		n int
	}{
		{"", 0}, {"a", 1}, {"abc", 3}, {" /\x00", 3}, {"é", 1}, {"éж語😀", 4}, {"\ufffd", 1}, {"\ufffd\xff", 2},
		{"aé\xff語", 4}, {"\xff\xff", 2}, {"\xc3", 1}, {"\xc3a", 2}, {"\xe8\xaa", 2}, {"\xe8\xaaa", 3}, {"\xe8\xaa\x9e", 1},
		{"\xed\xa0\x80", 3}, {"\xf4\x90\x80\x80", 4}, {"\xc3\xc3\xa9", 2},
		{strings.Repeat("é", 64), 64}, {strings.Repeat("é", 65), 65}, {strings.Repeat("語", 10000), 10000}, {strings.Repeat("\x80", 9999), 9999},
	} {
		if got := Runes(c.s); got != c.n {
			t.Errorf("Runes(%q) = %d, not %d", c.s, got, c.n)
		}
	}
}

// P2.1 and P2.3: each single rune, at the head and behind it.
func TestEachRune(t *testing.T) {
	for r := rune(0); r <= 0x10ffff; r++ {
		if r >= 0xd800 && r <= 0xdfff {
			continue
		}
		s := string(r)
		letter := r >= 0x80 || strings.Contains(asciiLetters, s)
		part := letter || strings.Contains(asciiOthers, s)
		if Good(s) != letter || Good("a"+s) != part || Runes(s) != 1 {
			t.Errorf("the rune %x: %v, behind a letter %v, %d", r, Good(s), Good("a"+s), Runes(s))
		}
		want := s
		if !part {
			want = "_"
		}
		if got := Mask(s); got != want {
			t.Errorf("Mask(%q) = %q, not %q", s, got, want)
		}
	}
}

// P2.1 and P2.3: each text of one byte and of two, and of edge bytes each of three and of four.
func TestEachShortText(t *testing.T) {
	checkText(t, "")
	for a := range 256 {
		checkText(t, string([]byte{byte(a)}))
		for b := range 256 {
			checkText(t, string([]byte{byte(a), byte(b)}))
		}
	}
	edges := edgeBytes()
	for _, a := range edges {
		for _, b := range edges {
			for _, c := range edges {
				checkText(t, string([]byte{a, b, c}))
				for _, d := range edges {
					checkText(t, string([]byte{a, b, c, d}))
				}
			}
		}
	}
}

// P2.3: the chapter's example, names, other runes, bytes that are none's.
func TestMask(t *testing.T) {
	for _, c := range []struct{ s, masked string }{
		{"a b", "a_b"},
		{"", ""}, {"a", "a"}, {"pay-2_Z", "pay-2_Z"}, {"éж語😀", "éж語😀"}, {"\ufffd", "\ufffd"}, {"\u0080", "\u0080"}, {"\u007f", "_"},
		{"1a", "1a"}, {"-a", "-a"}, {"_a", "_a"}, {"0123456789", "0123456789"},
		{"pay/2", "pay_2"}, {"//", "__"}, {" ", "_"}, {"  ", "__"}, {"a.b,c:d", "a_b_c_d"}, {"@[`{", "____"}, {"\x00\n", "__"},
		{"a\xffb", "a_b"}, {"a\xff\xc3b", "a__b"}, {"\xe8\xaa", "__"}, {"\xe8\xaa\x9e", "語"}, {"\xed\xa0\x80", "___"}, {"\xff\ufffd\xff", "_\ufffd_"},
		{strings.Repeat("é", 100), strings.Repeat("é", 100)},
		{strings.Repeat("a b", 1000), strings.Repeat("a_b", 1000)},
		{strings.Repeat("\xff", 1000), strings.Repeat("_", 1000)},
	} {
		if got := Mask(c.s); got != c.masked {
			t.Errorf("Mask(%q) = %q, not %q", c.s, got, c.masked)
		}
	}
}

// P2.3 and P2.4: a masked text has as many runes, its mask is the same; a name's is the name.
func TestMaskOfMask(t *testing.T) {
	texts := []string{"", "a b", "a__b", "_", "\xff", "é\xff語", "pay/2", strings.Repeat("a/", 70)}
	for _, s := range brokenTexts() {
		texts = append(texts, s, "é"+s)
	}
	for _, s := range texts {
		masked := Mask(s)
		if again := Mask(masked); again != masked {
			t.Errorf("Mask(%q) = %q", masked, again)
		}
		if Runes(masked) != Runes(s) {
			t.Errorf("Mask(%q) = %q has %d runes, not %d", s, masked, Runes(masked), Runes(s))
		}
		if name := "a" + masked; Runes(name) <= api.MaxName && !Good(name) {
			t.Errorf("%q is no name", name)
		}
		if Good(s) && masked != s {
			t.Errorf("Mask(%q) = %q", s, masked)
		}
	}
}

// names are that many names, no two the same.
func names(n int) []string {
	row := []string{}
	for i := range n {
		row = append(row, string(rune('a'+i)))
	}
	return row
}

// P2.2: Key.
func TestKey(t *testing.T) {
	longest := strings.Repeat("語", 64)
	for _, c := range []struct {
		names []string
		key   string
		ok    bool
	}{
		{[]string{"pay"}, "pay", true},
		{[]string{"pay", "ship"}, "pay/ship", true},
		{[]string{"a", "é", "b-1"}, "a/é/b-1", true},
		{[]string{"a", "a"}, "a/a", true},
		{[]string{"b", "a"}, "b/a", true},
		{[]string{"\ufffd", "\u0080"}, "\ufffd/\u0080", true},
		{names(7), "a/b/c/d/e/f/g", true},
		{names(8), "a/b/c/d/e/f/g/h", true},
		{[]string{longest}, longest, true},
		{slices.Repeat([]string{longest}, 8), longest + strings.Repeat("/"+longest, 7), true},
		{nil, "", false},
		{[]string{}, "", false},
		{names(9), "", false},
		{names(20), "", false},
		{slices.Repeat([]string{"a"}, 9), "", false},
		{slices.Repeat([]string{"a"}, 1000), "", false},
		{[]string{""}, "", false},
		{[]string{"", ""}, "", false},
		{[]string{"2"}, "", false},
		{[]string{"pay", "2"}, "", false},
		{[]string{"2", "pay"}, "", false},
		{[]string{"pay", ""}, "", false},
		{[]string{"", "pay"}, "", false},
		{[]string{"pay", "", "ship"}, "", false},
		{[]string{"pay/ship"}, "", false},
		{[]string{"a", "b/c"}, "", false},
		{[]string{"a", "b", "c d"}, "", false},
		{[]string{"a\xff"}, "", false},
		{[]string{"a", longest + "a"}, "", false},
		{append(names(7), "-h"), "", false},
	} {
		if key, ok := Key(c.names); key != c.key || ok != c.ok {
			t.Errorf("Key(%q) = %q, %v, not %q, %v", c.names, key, ok, c.key, c.ok)
		}
	}
}

// P2.2: Cut.
func TestCut(t *testing.T) {
	longest := strings.Repeat("語", 64)
	for _, c := range []struct {
		key   string
		names []string
	}{
		{"pay", []string{"pay"}},
		{"pay/ship", []string{"pay", "ship"}},
		{"a/é/b-1", []string{"a", "é", "b-1"}},
		{"a/a", []string{"a", "a"}},
		{"b/a", []string{"b", "a"}},
		{"a/b/c/d/e/f/g", names(7)},
		{"a/b/c/d/e/f/g/h", names(8)},
		{longest, []string{longest}},
		{longest + strings.Repeat("/"+longest, 7), slices.Repeat([]string{longest}, 8)},
		{"pay/2", nil}, {"2/pay", nil}, {"2", nil},
		{"", nil}, {"/", nil}, {"//", nil}, {"/a", nil}, {"a/", nil}, {"/a/", nil}, {"a//b", nil}, {"a/b/", nil}, {"/a/b", nil},
		{"a/b/c/d/e/f/g/h/i", nil}, {"a/b/c/d/e/f/g/h/", nil}, {"/a/b/c/d/e/f/g/h", nil}, {"a/b/c/d/e/f/g/h/2", nil},
		{"a/b/c/d/e/f/g/-", nil}, {"a/b/c/d/e/f/g/2", nil},
		{strings.Repeat("a/", 1000) + "a", nil},
		{strings.Repeat("/", 1000), nil},
		{longest + "a", nil}, {"a/" + longest + "a", nil},
		{"a b", nil}, {"a/ b", nil}, {"a /b", nil}, {"a/\xff", nil}, {"a\xc0\xafb", nil}, {"\xff/a", nil}, {"a\\b", nil}, {"a/b\n", nil},
	} {
		got, ok := Cut(c.key)
		if ok != (c.names != nil) || !slices.Equal(got, c.names) {
			t.Errorf("Cut(%q) = %q, %v, not %q", c.key, got, ok, c.names)
		}
	}
	// What looks like a / to some is a rune of its own.
	if got, ok := Cut("a∕b"); !ok || !slices.Equal(got, []string{"a∕b"}) {
		t.Errorf("Cut = %q, %v", got, ok)
	}
}

// rows are rows of names of up to three, of few names that are beginnings of each other, or hold what other separators would be.
func rows() [][]string {
	few := []string{"a", "aa", "a-", "a_", "a-a", "é", "éa", "\ufffd"}
	all := [][]string{}
	for _, x := range few {
		all = append(all, []string{x})
		for _, y := range few {
			all = append(all, []string{x, y})
			for _, z := range few {
				all = append(all, []string{x, y, z})
			}
		}
	}
	for n := 4; n <= 8; n++ {
		all = append(all, names(n), slices.Repeat([]string{"a"}, n))
	}
	return all
}

// P2.4: Cut of Key are the names; two rows of names have two keys.
func TestCutOfKey(t *testing.T) {
	whose := map[string][]string{}
	for _, row := range rows() {
		key, ok := Key(row)
		if !ok {
			t.Fatalf("Key(%q) = false", row)
		}
		if other, there := whose[key]; there {
			t.Errorf("%q and %q have one key, %q", row, other, key)
		}
		whose[key] = row
		back, ok := Cut(key)
		if !ok || !slices.Equal(back, row) {
			t.Errorf("Cut of the key of %q = %q, %v", row, back, ok)
		}
	}
}

// P2.4: what Cut takes is the key of what it answers; what it refuses is the key of no row that the / in it tell.
func TestKeyOfCut(t *testing.T) {
	signs := []string{"a", "é", "1", "/", "-", "\xff"}
	texts := []string{""}
	for from := 0; len(texts) < 6*6*6*6*6; {
		upTo := len(texts)
		for _, s := range texts[from:upTo] {
			for _, sign := range signs {
				texts = append(texts, s+sign)
			}
		}
		from = upTo
	}
	for _, s := range texts {
		row, ok := Cut(s)
		key, is := Key(strings.Split(s, "/"))
		if ok != is {
			t.Errorf("Cut(%q) = %q, %v, but Key is %v", s, row, ok, is)
		}
		if ok && key != s {
			t.Errorf("Cut(%q) = %q, whose key is %q", s, row, key)
		}
		if !ok && len(row) != 0 {
			t.Errorf("Cut(%q) = %q beside false", s, row)
		}
	}
}

// R4: what is handed in stays, behind its length too; what is answered may be written over and grown.
func TestMemory(t *testing.T) {
	whole := []string{"a", "b", "c", "2"}
	row := whole[:3]
	if key, ok := Key(row); key != "a/b/c" || !ok {
		t.Errorf("Key(%q) = %q, %v", row, key, ok)
	}
	if !slices.Equal(whole, []string{"a", "b", "c", "2"}) {
		t.Errorf("Key left %q", whole)
	}
	got, _ := Cut("a/b/c")
	for i := range got {
		got[i] = "x"
	}
	_ = append(got, "y")
	if again, ok := Cut("a/b/c"); !ok || !slices.Equal(again, names(3)) {
		t.Errorf("Cut again = %q, %v", again, ok)
	}
}

// P1 and R8: long texts of each kind end without a panic, with one answer.
func TestLongTexts(t *testing.T) {
	for _, sign := range []string{"a", "é", "/", "a/", " ", "\xff", "\xe8\xaa", "\ufffd"} {
		s := strings.Repeat(sign, 1<<18)
		if Good(s) {
			t.Errorf("Good of many %q", sign)
		}
		if row, ok := Cut(s); ok || len(row) != 0 {
			t.Errorf("Cut of many %q", sign)
		}
		if key, ok := Key([]string{s}); ok || key != "" {
			t.Errorf("Key of many %q", sign)
		}
		if Runes(s) != len(pieces(sign))<<18 || Runes(s) != Runes(s) {
			t.Errorf("Runes of many %q = %d", sign, Runes(s))
		}
		if Mask(s) != strings.Repeat(wantMask(sign), 1<<18) || Mask(s) != Mask(s) {
			t.Errorf("Mask of many %q", sign)
		}
	}
}
