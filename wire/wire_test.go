package wire

import (
	"bytes"
	"encoding/binary"
	"encoding/hex"
	"fmt"
	"math"
	"slices"
	"strconv"
	"strings"
	"testing"

	"usufruct/api"
	"usufruct/def"
	"usufruct/label"
)

const (
	lowest   = math.MinInt
	highest  = math.MaxInt
	top      = 999999999999999999 // the greatest number of a line
	mostForm = 1 << 62            // the greatest number that has a form
	mostText = 300
	mostName = 64
)

// mixer draws numbers by a rule, the same ones each time.
type mixer uint64

func (m *mixer) below(n int) int {
	*m = *m*6364136223846793005 + 1442695040888963407
	return int(uint64(*m)>>33) % n
}

func (m *mixer) flag() bool {
	return m.below(2) == 1
}

// number draws a number of a line, of any of many sizes.
func (m *mixer) number() int {
	switch m.below(6) {
	case 0:
		return 0
	case 1:
		return top
	}
	return (m.below(1<<31)<<31 + m.below(1<<31)) >> m.below(62) % (top + 1)
}

func pick[T any](m *mixer, l []T) T {
	return l[m.below(len(l))]
}

// tell is anything, cut short where it is long, without bytes that are no rune's.
func tell(x any) string {
	s := strconv.QuoteToASCII(fmt.Sprintf("%+v", x))
	if b, ok := x.([]byte); ok {
		s = fmt.Sprintf("%d bytes %x", len(b), b)
	}
	return s[:min(len(s), 900)]
}

// hand is bytes written out by hand: pairs of hexadecimal digits, with blanks between them.
func hand(t *testing.T, rows ...string) []byte {
	t.Helper()
	b, err := hex.DecodeString(strings.Join(strings.Fields(strings.Join(rows, " ")), ""))
	if err != nil {
		t.Fatal(err)
	}
	return b
}

// eight are a number's eight bytes, the highest first.
func eight(n uint64) []byte {
	return binary.BigEndian.AppendUint64(nil, n)
}

// num is a number's form, text a text's, flag a flag's: by layer 4's words.
func num(n int) []byte {
	return eight(uint64(n))
}

func text(s string) []byte {
	return append(eight(uint64(len(s))), s...)
}

func flag(yes bool) []byte {
	if yes {
		return []byte{1}
	}
	return []byte{0}
}

func commandFields(c api.Command) [][]byte {
	return [][]byte{num(c.Saga), num(c.Step), flag(c.Undo), num(c.Try), text(c.Party), text(c.Key)}
}

func replyFields(r api.Reply) [][]byte {
	return [][]byte{num(r.Saga), num(r.Step), flag(r.Undo), num(r.Try), flag(r.Good)}
}

// joined are fields one behind the other.
func joined(fields [][]byte) []byte {
	return slices.Concat(fields...)
}

// placeOf is where a field begins.
func placeOf(fields [][]byte, i int) int {
	return len(joined(fields[:i]))
}

// names that are some, the least and the greatest of each kind of rune among them.
func names() []string {
	return []string{
		"a", "z", "A", "Z", "a0", "a9", "a-", "b_", "hotel", "\u0080", "\u0085x", "\u00a0", "é", "\u2003", "\u3000y", "\ufffd", "\uffff", "\U0010ffff",
		"send", "do", "undo", "x-1_Y", strings.Repeat("n", mostName), strings.Repeat("\U0010ffff", mostName), strings.Repeat("é", mostName),
	}
}

// noNames are texts that are none.
func noNames() []string {
	return []string{
		"", "0", "9", "-", "_", "1a", "-a", "_a", "a b", " a", "a ", "a/b", "/", "a\t", "a\n", "\n", "a\x00", "\x7f", "a:", "a@", "a[", "a`", "a{", "a.",
		"\x80", "a\xff", "\xc0\x80", "a\xed\xa0\x80", "\xf4\x90\x80\x80", "é\xc3", strings.Repeat("n", mostName+1), strings.Repeat("é", mostName+1), strings.Repeat("n", 301),
	}
}

func wayText(undo bool) string {
	if undo {
		return "undo"
	}
	return "do"
}

func howText(good bool) string {
	if good {
		return "good"
	}
	return "bad"
}

// command is a right one, if its parts are.
func command(saga, step int, undo bool, try int, party, name string) api.Command {
	return api.Command{Saga: saga, Step: step, Undo: undo, Try: try, Party: party, Key: strconv.Itoa(saga) + "/" + name + "/" + wayText(undo)}
}

// rightCommands are right ones at the edges.
func rightCommands() []api.Command {
	l := []api.Command{
		command(0, 0, false, 0, "a", "a"),
		command(7, 0, true, 1, "bank", "pay"),
		command(12, 1, false, 3, "hotel", "book"),
		command(top, top, true, top, "z", "z"),
		command(top, 0, false, 0, "z", "z"),
		command(100000000000000000, 1, false, 10, "do", "undo"),
		command(0, 1, true, 2, strings.Repeat("\U0010ffff", mostName), strings.Repeat("\U0010ffff", mostName)),
		command(top, top, true, top, strings.Repeat("\U0010ffff", mostName), strings.Repeat("\U0010ffff", mostName)),
	}
	for i, name := range names() {
		l = append(l, command(i, i+1, i%2 == 0, i+2, name, "pay"), command(i, i+1, i%2 == 1, i+2, "bank", name))
	}
	return l
}

// rightReplies are right ones at the edges.
func rightReplies() []api.Reply {
	var l []api.Reply
	for _, n := range []int{0, 1, 9, 10, 99, 123456789, 100000000000000000, top - 1, top} {
		for _, undo := range []bool{false, true} {
			for _, good := range []bool{false, true} {
				l = append(l, api.Reply{Saga: n, Step: 1, Undo: undo, Try: 2, Good: good}, api.Reply{Saga: 3, Step: n, Undo: undo, Try: 4, Good: good},
					api.Reply{Saga: 5, Step: 6, Undo: undo, Try: n, Good: good}, api.Reply{Saga: n, Step: n, Undo: undo, Try: n, Good: good})
			}
		}
	}
	return l
}

// farNumbers are numbers that are none of a line.
func farNumbers() []int {
	return []int{lowest, lowest + 1, -top, -2, -1, top + 1, top + 2, mostForm - 1, mostForm, mostForm + 1, highest - 1, highest}
}

// noKeys are texts that are none of a command of saga 7 that goes forward, at whatever step.
func noKeys() []string {
	l := []string{
		"", "/", "//", "///", "7", "7/", "7/pay", "7/pay/", "pay/do", "/pay/do", "7//do", "7/do", "7/pay/do/", "/7/pay/do", "7/pay/do/do", "7/pay/x/do", "7/pay//do",
		"7/pay/undo", "8/pay/do", "70/pay/do", "77/pay/do", "0/pay/do", "6/pay/do", "07/pay/do", "007/pay/do", "+7/pay/do", "-7/pay/do", "7 /pay/do", " 7/pay/do", "7/pay/do ", "7/pay/ do", "7.0/pay/do", "7e0/pay/do", "0x7/pay/do", "\u0667/pay/do", "\uff17/pay/do",
		"7/pay/Do", "7/pay/DO", "7/pay/d", "7/pay/doo", "7/pay/un", "7/pay/good", "7/1/do", "7/-/do", "7/p y/do", "7/pay\n/do", "7/pay/do\n", "7\\pay\\do", "7-pay-do", "7/\xff/do", "seven/pay/do",
		"1000000000000000007/pay/do", "00000000000000000007/pay/do", "18446744073709551623/pay/do",
	}
	for _, name := range noNames() {
		l = append(l, "7/"+name+"/do")
	}
	return l
}

// wrongCommands are ones that aren't right.
func wrongCommands() []api.Command {
	l := []api.Command{{}, {Party: "bank"}, {Key: "0/pay/do"}, {Saga: 7, Party: "bank", Key: "7/pay/undo"}, {Saga: 7, Undo: true, Party: "bank", Key: "7/pay/do"}}
	for _, n := range farNumbers() {
		of := command(n, 0, false, 1, "bank", "pay")
		l = append(l, of, api.Command{Saga: n, Party: "bank", Key: "0/pay/do"}, command(7, n, true, 1, "bank", "pay"), command(7, 0, false, n, "bank", "pay"))
	}
	for _, name := range noNames() {
		l = append(l, command(7, 0, false, 1, name, "pay"), command(7, 0, true, 1, "bank", name))
	}
	for _, key := range noKeys() {
		l = append(l, api.Command{Saga: 7, Step: 0, Try: 1, Party: "bank", Key: key})
	}
	for _, saga := range []int{0, 1, 6, 8, 70, top} {
		l = append(l, api.Command{Saga: saga, Try: 1, Party: "bank", Key: "7/pay/do"})
	}
	return l
}

// wrongReplies are ones that aren't right.
func wrongReplies() []api.Reply {
	var l []api.Reply
	for _, n := range farNumbers() {
		for _, good := range []bool{false, true} {
			l = append(l, api.Reply{Saga: n, Step: 1, Try: 1, Good: good}, api.Reply{Saga: 1, Step: n, Undo: true, Try: 1, Good: good}, api.Reply{Saga: 1, Step: 1, Try: n, Good: good}, api.Reply{Saga: n, Step: n, Undo: good, Try: n})
		}
	}
	return l
}

// P19.1: what is right, at each number's edges.
func TestGoodNumbers(t *testing.T) {
	for _, n := range append([]int{0, 1, 9, 10, 1 << 40, top - 1, top}, farNumbers()...) {
		want := n >= 0 && n < 1000000000000000000
		for _, undo := range []bool{false, true} {
			for i, c := range []api.Command{command(n, 3, undo, 4, "bank", "pay"), command(3, n, undo, 4, "bank", "pay"), command(3, 4, undo, n, "bank", "pay")} {
				if got := GoodCommand(c); got != want {
					t.Errorf("GoodCommand(%s) is %v, with %d as its number %d", tell(c), got, n, i)
				}
			}
			for i, r := range []api.Reply{{Saga: n, Step: 3, Undo: undo, Try: 4}, {Saga: 3, Step: n, Undo: undo, Try: 4, Good: true}, {Saga: 3, Step: 4, Undo: undo, Try: n}} {
				if got := GoodReply(r); got != want {
					t.Errorf("GoodReply(%s) is %v, with %d as its number %d", tell(r), got, n, i)
				}
			}
		}
	}
}

// P19.1: parties and keys that are, and aren't.
func TestGoodCommandTexts(t *testing.T) {
	for _, c := range rightCommands() {
		if !GoodCommand(c) {
			t.Errorf("%s isn't right", tell(c))
		}
	}
	for _, c := range wrongCommands() {
		if GoodCommand(c) {
			t.Errorf("%s is right", tell(c))
		}
	}
	d := api.Def{Name: "order", Steps: []api.Step{{Name: "book"}, {Name: "pay"}}}
	for _, undo := range []bool{false, true} {
		// Its step's name may be any: the command tells none.
		for step := range d.Steps {
			c := api.Command{Saga: 5, Step: 31, Undo: undo, Try: 1, Party: "bank", Key: def.Key(5, d, step, undo)}
			if !GoodCommand(c) {
				t.Errorf("%s isn't right", tell(c))
			}
		}
	}
}

// P19.1: replies that are, and aren't.
func TestGoodReplies(t *testing.T) {
	for _, r := range append(rightReplies(), api.Reply{}) {
		if !GoodReply(r) {
			t.Errorf("%s isn't right", tell(r))
		}
	}
	for _, r := range wrongReplies() {
		if GoodReply(r) {
			t.Errorf("%s is right", tell(r))
		}
	}
}

// P19.1: lines, written out.
func TestLinesByHand(t *testing.T) {
	for _, x := range []struct {
		c    api.Command
		line string
	}{
		{api.Command{Saga: 7, Undo: true, Try: 1, Party: "bank", Key: "7/pay/undo"}, "send 7 0 undo 1 bank 7/pay/undo"},
		{api.Command{Saga: 12, Step: 1, Try: 3, Party: "hotel", Key: "12/book/do"}, "send 12 1 do 3 hotel 12/book/do"},
		{api.Command{Party: "a", Key: "0/b/do"}, "send 0 0 do 0 a 0/b/do"},
		{api.Command{Saga: top, Step: top, Undo: true, Try: top, Party: "Z-9_", Key: "999999999999999999/x/undo"}, "send 999999999999999999 999999999999999999 undo 999999999999999999 Z-9_ 999999999999999999/x/undo"},
		{api.Command{Saga: 10, Step: 20, Try: 30, Party: "é\u00a0", Key: "10/\u3000/do"}, "send 10 20 do 30 \u00e9\u00a0 10/\u3000/do"},
		{api.Command{Saga: 1, Step: 2, Undo: true, Try: 3, Party: "undo", Key: "1/do/undo"}, "send 1 2 undo 3 undo 1/do/undo"},
	} {
		if got := CommandLine(x.c); got != x.line {
			t.Errorf("CommandLine(%s) is %q, not %q", tell(x.c), got, x.line)
		}
		if c, ok := ReadCommand(x.line); !ok || c != x.c {
			t.Errorf("ReadCommand(%q) is %s, %v", x.line, tell(c), ok)
		}
	}
	for _, x := range []struct {
		r    api.Reply
		line string
	}{
		{api.Reply{}, "reply 0 0 do 0 bad"},
		{api.Reply{Undo: true, Try: 1}, "reply 0 0 undo 1 bad"},
		{api.Reply{Saga: 12, Step: 1, Try: 3, Good: true}, "reply 12 1 do 3 good"},
		{api.Reply{Saga: 1, Step: 2, Undo: true, Try: 3, Good: true}, "reply 1 2 undo 3 good"},
		{api.Reply{Saga: top, Step: top, Undo: true, Try: top}, "reply 999999999999999999 999999999999999999 undo 999999999999999999 bad"},
	} {
		if got := ReplyLine(x.r); got != x.line {
			t.Errorf("ReplyLine(%s) is %q, not %q", tell(x.r), got, x.line)
		}
		if r, ok := ReadReply(x.line); !ok || r != x.r {
			t.Errorf("ReadReply(%q) is %s, %v", x.line, tell(r), ok)
		}
	}
}

// P19.1, P19.2: what isn't right has no line, and no form.
func TestNothingOfWrong(t *testing.T) {
	for _, c := range wrongCommands() {
		if line, form := CommandLine(c), PutCommand(c); line != "" || len(form) != 0 {
			t.Errorf("%s has the line %q, the form %s", tell(c), line, tell(form))
		}
	}
	for _, r := range wrongReplies() {
		if line, form := ReplyLine(r), PutReply(r); line != "" || len(form) != 0 {
			t.Errorf("%s has the line %q, the form %s", tell(r), line, tell(form))
		}
	}
}

// P19.1, P19.4: what is right is read from its line.
func TestReadRight(t *testing.T) {
	for _, c := range rightCommands() {
		if got, ok := ReadCommand(CommandLine(c)); !ok || got != c {
			t.Errorf("%s is read as %s, %v", tell(c), tell(got), ok)
		}
		noReply(t, CommandLine(c))
	}
	for _, r := range rightReplies() {
		if got, ok := ReadReply(ReplyLine(r)); !ok || got != r {
			t.Errorf("%s is read as %s, %v", tell(r), tell(got), ok)
		}
		noCommand(t, ReplyLine(r))
	}
}

func noCommand(t *testing.T, s string) {
	t.Helper()
	if c, ok := ReadCommand(s); ok || c != (api.Command{}) {
		t.Errorf("ReadCommand(%s) is %s, %v", tell(s), tell(c), ok)
	}
}

func noReply(t *testing.T, s string) {
	t.Helper()
	if r, ok := ReadReply(s); ok || r != (api.Reply{}) {
		t.Errorf("ReadReply(%s) is %s, %v", tell(s), tell(r), ok)
	}
}

// noLine holds that a text is neither's line.
func noLine(t *testing.T, s string) {
	t.Helper()
	noCommand(t, s)
	noReply(t, s)
}

// lines are right ones, word by word.
func lines() [][]string {
	return [][]string{
		{"send", "7", "0", "undo", "1", "bank", "7/pay/undo"},
		{"send", "0", "0", "do", "0", "a", "0/b/do"},
		{"send", "10", "20", "do", "30", "é", "10/do/do"},
		{"reply", "7", "0", "undo", "1", "good"},
		{"reply", "0", "0", "do", "0", "bad"},
		{"reply", "10", "20", "do", "30", "good"},
	}
}

// isLine holds that those words are a line, so that what is turned in them is all that is at fault.
func isLine(t *testing.T, words []string) {
	t.Helper()
	s := strings.Join(words, " ")
	_, c := ReadCommand(s)
	_, r := ReadReply(s)
	if c != (words[0] == "send") || r != (words[0] == "reply") {
		t.Errorf("%q is read: %v, %v", s, c, r)
	}
}

// with are words with another one at a place.
func with(words []string, i int, word string) []string {
	words = slices.Clone(words)
	words[i] = word
	return words
}

// P19.1: a word lacking, one too many, doubled, two at each other's places.
func TestReadWordsLackingAndMore(t *testing.T) {
	for _, words := range lines() {
		isLine(t, words)
		for i := range words {
			noLine(t, strings.Join(words[:i], " "))
			noLine(t, strings.Join(words[i+1:], " "))
			noLine(t, strings.Join(slices.Delete(slices.Clone(words), i, i+1), " "))
			noLine(t, strings.Join(with(words, i, ""), " "))
			for _, more := range []string{words[i], "", "0", "x", "do", "good", "send", "reply"} {
				noLine(t, strings.Join(slices.Insert(slices.Clone(words), i, more), " "))
			}
			for j := range i {
				if swapped := with(with(words, i, words[j]), j, words[i]); !isRight(swapped) {
					noLine(t, strings.Join(swapped, " "))
				}
			}
		}
		for _, more := range []string{" x", " 0", " good", " ", "  ", " " + strings.Join(words, " "), " " + words[len(words)-1], "\n", "\n" + strings.Join(words, " ")} {
			noLine(t, strings.Join(words, " ")+more)
		}
	}
}

// P19.1: each word of another text.
func TestReadOtherWords(t *testing.T) {
	for _, words := range lines() {
		for i, word := range words {
			for _, other := range []string{
				strings.ToUpper(word), strings.ToUpper(word[:1]) + word[1:], word[:len(word)-1], word + "x", word + "0", "x" + word, word + "\x00", word + ".", word + "/", word + "\t", "\n" + word, word + word,
				"send", "reply", "do", "undo", "good", "bad", "sent", "Send", "replied", "did", "undid", "fine", "true", "1.0", "\xff",
			} {
				changed := with(words, i, other)
				if other == word || isRight(changed) {
					continue
				}
				noLine(t, strings.Join(changed, " "))
			}
		}
	}
}

// isRight tells, by the chapter's words, whether those are a line's.
func isRight(words []string) bool {
	if len(words) < 6 || !isNumber(words[1]) || !isNumber(words[2]) || words[3] != "do" && words[3] != "undo" || !isNumber(words[4]) {
		return false
	}
	if words[0] == "reply" {
		return len(words) == 6 && (words[5] == "good" || words[5] == "bad")
	}
	if words[0] != "send" || len(words) != 7 || !label.Good(words[5]) {
		return false
	}
	parts := strings.Split(words[6], "/")
	return len(parts) == 3 && parts[0] == words[1] && label.Good(parts[1]) && parts[2] == words[3]
}

// isNumber tells whether a text is a number of a line.
func isNumber(s string) bool {
	if s == "" || len(s) > 18 || s != "0" && s[0] == '0' {
		return false
	}
	return strings.Trim(s, "0123456789") == ""
}

// P19.1: numbers' words. The saga's stands in the key too.
func TestReadNumbers(t *testing.T) {
	for _, x := range []struct {
		word string
		n    int // below 0: it is none
	}{
		{"0", 0}, {"1", 1}, {"9", 9}, {"10", 10}, {"12", 12}, {"100", 100}, {"123456789012345678", 123456789012345678}, {"100000000000000000", 100000000000000000}, {"999999999999999998", top - 1}, {"999999999999999999", top},
		{"", -1}, {"00", -1}, {"01", -1}, {"012", -1}, {"000000000000000000", -1}, {"0999999999999999999", -1}, {"099999999999999999", -1}, {"-0", -1}, {"+0", -1}, {"-1", -1}, {"+1", -1}, {"+12", -1}, {"--1", -1}, {"-", -1}, {"+", -1},
		{"1000000000000000000", -1}, {"9999999999999999999", -1}, {"1000000000000000001", -1}, {"9223372036854775807", -1}, {"9223372036854775808", -1}, {"-9223372036854775808", -1}, {"18446744073709551616", -1}, {"18446744073709551617", -1}, {strings.Repeat("9", 400), -1}, {strings.Repeat("0", 400), -1},
		{"x", -1}, {"1x", -1}, {"x1", -1}, {"1.", -1}, {"1.0", -1}, {"1e1", -1}, {"0x1", -1}, {"0b1", -1}, {"0o7", -1}, {"1_0", -1}, {"1,0", -1}, {"do", -1}, {"\u0661", -1}, {"1\u0661", -1}, {"\u0967", -1}, {"\uff11", -1}, {"\u00b2", -1}, {"\U0001d7cf", -1}, {"1\t", -1}, {"\n1", -1}, {"1\x00", -1}, {"1\xff", -1}, {"\xb1", -1},
	} {
		for _, undo := range []bool{false, true} {
			way := wayText(undo)
			key := x.word + "/pay/" + way
			readsCommand(t, "send "+x.word+" 2 "+way+" 3 bank "+key, api.Command{Saga: x.n, Step: 2, Undo: undo, Try: 3, Party: "bank", Key: key}, x.n >= 0)
			readsCommand(t, "send 1 "+x.word+" "+way+" 3 bank 1/pay/"+way, api.Command{Saga: 1, Step: x.n, Undo: undo, Try: 3, Party: "bank", Key: "1/pay/" + way}, x.n >= 0)
			readsCommand(t, "send 1 2 "+way+" "+x.word+" bank 1/pay/"+way, api.Command{Saga: 1, Step: 2, Undo: undo, Try: x.n, Party: "bank", Key: "1/pay/" + way}, x.n >= 0)
			readsReply(t, "reply "+x.word+" 2 "+way+" 3 good", api.Reply{Saga: x.n, Step: 2, Undo: undo, Try: 3, Good: true}, x.n >= 0)
			readsReply(t, "reply 1 "+x.word+" "+way+" 3 bad", api.Reply{Saga: 1, Step: x.n, Undo: undo, Try: 3}, x.n >= 0)
			readsReply(t, "reply 1 2 "+way+" "+x.word+" good", api.Reply{Saga: 1, Step: 2, Undo: undo, Try: x.n, Good: true}, x.n >= 0)
		}
	}
}

func readsCommand(t *testing.T, s string, want api.Command, ok bool) {
	t.Helper()
	noReply(t, s)
	if !ok {
		noCommand(t, s)
		return
	}
	if c, ok := ReadCommand(s); !ok || c != want {
		t.Errorf("ReadCommand(%s) is %s, %v", tell(s), tell(c), ok)
	}
}

func readsReply(t *testing.T, s string, want api.Reply, ok bool) {
	t.Helper()
	noCommand(t, s)
	if !ok {
		noReply(t, s)
		return
	}
	if r, ok := ReadReply(s); !ok || r != want {
		t.Errorf("ReadReply(%s) is %s, %v", tell(s), tell(r), ok)
	}
}

// P19.1: blanks, and what may look like one.
func TestReadBlanks(t *testing.T) {
	for _, words := range lines() {
		s := strings.Join(words, " ")
		for _, gap := range []string{"", "  ", "\t", "\n", "\r\n", " \n", "\t ", "\v", "\f", "\r", "\x00", "\u0085", "\u00a0", "\u2003", "\u3000", "\ufeff", "/", ","} {
			if gap != "" {
				noLine(t, gap+s)
				noLine(t, s+gap)
			}
			noLine(t, strings.Join(words, gap))
			for i := 1; i < len(words); i++ {
				noLine(t, strings.Join(words[:i], " ")+gap+strings.Join(words[i:], " "))
			}
		}
		noLine(t, " "+s)
		noLine(t, s+" ")
		noLine(t, " "+s+" ")
		noLine(t, "\""+s+"\"")
	}
	for _, s := range []string{"", " ", "  ", "\n", "\x00", "\xff", "send", "reply", "send ", "reply ", " send", "      ", "     ", "send      ", "reply     ", "0", "send 0 0 do 0", "reply 0 0 do 0 "} {
		noLine(t, s)
	}
}

// P19.1: each byte of a line lacking, doubled, and turned into each other one.
func TestReadBytesTurned(t *testing.T) {
	for _, words := range lines() {
		s := strings.Join(words, " ")
		for i := range len(s) {
			readsAs(t, s[:i])
			readsAs(t, s[i:])
			readsAs(t, s[:i]+s[i+1:])
			readsAs(t, s[:i+1]+s[i:])
			for b := range 256 {
				readsAs(t, s[:i]+string([]byte{byte(b)})+s[i+1:])
			}
		}
	}
}

// readsAs holds that a text is read just where it is a line by the chapter's words, and as the one whose it is.
func readsAs(t *testing.T, s string) {
	t.Helper()
	words := strings.Split(s, " ")
	right := isRight(words)
	c, isCommand := ReadCommand(s)
	r, isReply := ReadReply(s)
	if isCommand != (right && words[0] == "send") || isReply != (right && words[0] == "reply") {
		t.Errorf("%s is read: %v, %v", tell(s), isCommand, isReply)
		return
	}
	if !isCommand && c != (api.Command{}) || !isReply && r != (api.Reply{}) {
		t.Errorf("%s is read as %s, %s", tell(s), tell(c), tell(r))
	}
	if isCommand && (strings.Join(words, " ") != fmt.Sprintf("send %d %d %s %d %s %s", c.Saga, c.Step, wayText(c.Undo), c.Try, c.Party, c.Key) || !GoodCommand(c) || CommandLine(c) != s) {
		t.Errorf("%s is read as %s", tell(s), tell(c))
	}
	if isReply && (strings.Join(words, " ") != fmt.Sprintf("reply %d %d %s %d %s", r.Saga, r.Step, wayText(r.Undo), r.Try, howText(r.Good)) || !GoodReply(r) || ReplyLine(r) != s) {
		t.Errorf("%s is read as %s", tell(s), tell(r))
	}
}

// P19.1: a key, or a party, that isn't one of the line's.
func TestReadKeysAndParties(t *testing.T) {
	for _, key := range noKeys() {
		noLine(t, "send 7 0 do 1 bank "+key)
	}
	for _, name := range noNames() {
		noLine(t, "send 7 0 do 1 "+name+" 7/pay/do")
		noLine(t, "send 7 0 undo 1 bank 7/"+name+"/undo")
	}
	for _, name := range names() {
		readsCommand(t, "send 7 0 do 1 "+name+" 7/pay/do", api.Command{Saga: 7, Try: 1, Party: name, Key: "7/pay/do"}, true)
		readsCommand(t, "send 7 0 undo 1 bank 7/"+name+"/undo", api.Command{Saga: 7, Undo: true, Try: 1, Party: "bank", Key: "7/" + name + "/undo"}, true)
		noLine(t, "send 7 0 do 1 bank 7/"+name+"/undo")
		noLine(t, "send 7 0 undo 1 bank 7/"+name+"/do")
		noLine(t, "send 7 0 do 1 bank 8/"+name+"/do")
	}
}

// P19.2: forms, written out.
func TestFormsByHand(t *testing.T) {
	for _, x := range []struct {
		c    api.Command
		form []byte
	}{
		{api.Command{Saga: 7, Undo: true, Try: 1, Party: "bank", Key: "7/pay/undo"}, hand(t, "0000000000000007 0000000000000000 01 0000000000000001", "0000000000000004 62616e6b", "000000000000000a 372f7061792f756e646f")},
		{api.Command{Saga: 258, Step: 3, Try: 65536, Party: "é", Key: "258/a/do"}, hand(t, "0000000000000102 0000000000000003 00 0000000000010000", "0000000000000002 c3a9", "0000000000000008 3235382f612f646f")},
		{api.Command{Saga: top, Step: top, Try: top, Party: "a", Key: "999999999999999999/b/do"}, hand(t, "0de0b6b3a763ffff 0de0b6b3a763ffff 00 0de0b6b3a763ffff", "0000000000000001 61", "0000000000000017 393939393939393939393939393939393939 2f622f646f")},
	} {
		if got := PutCommand(x.c); !bytes.Equal(got, x.form) {
			t.Errorf("PutCommand(%s) is %s", tell(x.c), tell(got))
		}
		takesCommand(t, x.form, x.c, 0, api.OK)
	}
	for _, x := range []struct {
		r    api.Reply
		form []byte
	}{
		{api.Reply{}, make([]byte, 26)},
		{api.Reply{Saga: 1, Step: 2, Undo: true, Try: 3, Good: true}, hand(t, "0000000000000001 0000000000000002 01 0000000000000003 01")},
		{api.Reply{Saga: 1, Step: 2, Undo: true, Try: 3}, hand(t, "0000000000000001 0000000000000002 01 0000000000000003 00")},
		{api.Reply{Saga: top, Step: top, Try: top, Good: true}, hand(t, "0de0b6b3a763ffff 0de0b6b3a763ffff 00 0de0b6b3a763ffff 01")},
	} {
		if got := PutReply(x.r); !bytes.Equal(got, x.form) {
			t.Errorf("PutReply(%s) is %s", tell(x.r), tell(got))
		}
		takesReply(t, x.form, x.r, 0, api.OK)
	}
}

func takesCommand(t *testing.T, b []byte, want api.Command, place int, errno api.Errno) {
	t.Helper()
	c, at, e := TakeCommand(b)
	if c != want || at != place || e != errno {
		t.Errorf("TakeCommand(%s) is %s, %d, %d, not %s, %d, %d", tell(b), tell(c), at, e, tell(want), place, errno)
	}
}

func takesReply(t *testing.T, b []byte, want api.Reply, place int, errno api.Errno) {
	t.Helper()
	r, at, e := TakeReply(b)
	if r != want || at != place || e != errno {
		t.Errorf("TakeReply(%s) is %s, %d, %d, not %s, %d, %d", tell(b), tell(r), at, e, tell(want), place, errno)
	}
}

func commandFails(t *testing.T, b []byte, place int, errno api.Errno) {
	t.Helper()
	takesCommand(t, b, api.Command{}, place, errno)
}

func replyFails(t *testing.T, b []byte, place int, errno api.Errno) {
	t.Helper()
	takesReply(t, b, api.Reply{}, place, errno)
}

// P19.2, P19.4: forms of right ones, field by field, and what is taken from them.
func TestForms(t *testing.T) {
	for _, c := range rightCommands() {
		form := joined(commandFields(c))
		if got := PutCommand(c); !bytes.Equal(got, form) {
			t.Errorf("PutCommand(%s) is %s, not %s", tell(c), tell(got), tell(form))
		}
		takesCommand(t, form, c, 0, api.OK)
	}
	for _, r := range rightReplies() {
		form := joined(replyFields(r))
		if got := PutReply(r); !bytes.Equal(got, form) {
			t.Errorf("PutReply(%s) is %s, not %s", tell(r), tell(got), tell(form))
		}
		takesReply(t, form, r, 0, api.OK)
	}
}

// cutPlace is where the first field begins that isn't all there in the first bytes.
func cutPlace(fields [][]byte, size int) int {
	at := 0
	for _, f := range fields {
		if at+len(f) > size {
			break
		}
		at += len(f)
	}
	return at
}

// P19.2: forms cut off at each byte: ErrShort where the field begins that lacks some.
func TestTakeCutOff(t *testing.T) {
	for _, c := range rightCommands()[:12] {
		fields := commandFields(c)
		form := joined(fields)
		for size := range form {
			commandFails(t, form[:size], cutPlace(fields, size), api.ErrShort)
		}
	}
	for _, r := range rightReplies() {
		fields := replyFields(r)
		form := joined(fields)
		for size := range form {
			replyFails(t, form[:size], cutPlace(fields, size), api.ErrShort)
		}
	}
	commandFails(t, nil, 0, api.ErrShort)
	commandFails(t, []byte{}, 0, api.ErrShort)
	replyFails(t, nil, 0, api.ErrShort)
	replyFails(t, []byte{}, 0, api.ErrShort)
}

// P19.2: bytes behind a form: ErrForm where they begin, whether what stands ahead of them is right or not.
func TestTakeMore(t *testing.T) {
	for _, more := range []string{"\x00", "\x01", "\xff", "x", "\x00\x00\x00\x00\x00\x00\x00\x00", strings.Repeat("z", 400)} {
		for _, c := range append(rightCommands(), api.Command{}, command(top+1, 0, false, 0, "a", "b"), command(7, 0, false, 1, "1", "b")) {
			form := joined(commandFields(c))
			commandFails(t, append(form, more...), len(form), api.ErrForm)
		}
		for _, r := range append(rightReplies(), api.Reply{Saga: top + 1}, api.Reply{Try: mostForm}) {
			form := joined(replyFields(r))
			replyFails(t, append(form, more...), len(form), api.ErrForm)
		}
	}
	c, r := command(7, 0, true, 1, "bank", "pay"), api.Reply{Saga: 7}
	commandFails(t, append(PutCommand(c), PutCommand(c)...), len(PutCommand(c)), api.ErrForm)
	replyFails(t, append(PutReply(r), PutReply(r)...), 26, api.ErrForm)
	// One's form is none of the other.
	commandFails(t, PutReply(r), 25, api.ErrShort)
	replyFails(t, PutCommand(c), 26, api.ErrForm)
}

// spoilt is a field's bytes that fail, and how.
type spoilt struct {
	b []byte
	e api.Errno
}

func spoiltNumbers() []spoilt {
	return []spoilt{{eight(mostForm + 1), api.ErrLarge}, {eight(1 << 63), api.ErrLarge}, {eight(1<<64 - 1), api.ErrLarge}, {eight(1<<63 - 1), api.ErrLarge}, {eight(1<<64 - 7), api.ErrLarge}}
}

func spoiltTexts() []spoilt {
	return append(spoiltNumbers(), spoilt{eight(301), api.ErrLarge}, spoilt{eight(mostForm), api.ErrLarge}, spoilt{text(strings.Repeat("a", 301)), api.ErrLarge}, spoilt{text(strings.Repeat("a", 400)), api.ErrLarge})
}

func spoiltFlags() []spoilt {
	l := []spoilt{}
	for b := 2; b < 256; b++ {
		l = append(l, spoilt{[]byte{byte(b)}, api.ErrForm})
	}
	return l
}

// P19.2: one field spoilt, and one behind it too: the first one's place and error, whatever stands behind.
func TestTakeFieldsSpoilt(t *testing.T) {
	for _, c := range rightCommands()[:10] {
		fields := commandFields(c)
		of := [][]spoilt{spoiltNumbers(), spoiltNumbers(), spoiltFlags(), spoiltNumbers(), spoiltTexts(), spoiltTexts()}
		fieldsSpoilt(t, fields, of, commandFails)
	}
	for _, r := range rightReplies() {
		fields := replyFields(r)
		of := [][]spoilt{spoiltNumbers(), spoiltNumbers(), spoiltFlags(), spoiltNumbers(), spoiltFlags()}
		fieldsSpoilt(t, fields, of, replyFails)
	}
}

func fieldsSpoilt(t *testing.T, fields [][]byte, of [][]spoilt, fails func(*testing.T, []byte, int, api.Errno)) {
	t.Helper()
	for i := range fields {
		at := placeOf(fields, i)
		for _, s := range of[i] {
			one := slices.Clone(fields)
			one[i] = s.b
			fails(t, joined(one), at, s.e)
			fails(t, append(joined(one), 0), at, s.e)
			fails(t, append(joined(fields[:i]), s.b...), at, s.e)
			for j := i + 1; j < len(fields); j++ {
				two := slices.Clone(one)
				two[j] = of[j][0].b
				fails(t, joined(two), at, s.e)
			}
		}
		// A field that fails comes ahead of a number that isn't right, wherever that stands.
		for j := range fields {
			if j != i && len(fields[j]) == 8 {
				two := slices.Clone(fields)
				two[i], two[j] = of[i][0].b, num(top+1)
				fails(t, joined(two), at, of[i][0].e)
			}
		}
	}
}

// P19.2: texts have at most 300 bytes; those up to it are looked at as names and keys.
func TestTakeTextLengths(t *testing.T) {
	for _, n := range []int{0, 65, 256, 257, 299, 300, 301, 302, 1000} {
		long := strings.Repeat("n", n)
		e, party, key := api.ErrKind, 0, 0
		if n > mostText {
			e, party, key = api.ErrLarge, 25, 37
		}
		commandFails(t, joined(commandFields(api.Command{Saga: 7, Try: 1, Party: long, Key: "7/pay/do"})), party, e)
		commandFails(t, joined(commandFields(api.Command{Saga: 7, Try: 1, Party: "bank", Key: long})), key, e)
		commandFails(t, joined(commandFields(api.Command{Saga: 7, Try: 1, Party: long, Key: long})), party, e)
	}
	// The longest ones that may be: a party of 256 bytes, a key of 280.
	c := command(top, 0, true, 1, strings.Repeat("\U0010ffff", mostName), strings.Repeat("\U0010ffff", mostName))
	if len(c.Party) != 256 || len(c.Key) != 280 {
		t.Fatal(len(c.Party), len(c.Key))
	}
	takesCommand(t, joined(commandFields(c)), c, 0, api.OK)
}

// P19.2: all fields are there, but they aren't those of a right one: 0 and ErrKind.
func TestTakeWrong(t *testing.T) {
	for _, c := range wrongCommands() {
		if min(c.Saga, c.Step, c.Try) < 0 || max(c.Saga, c.Step, c.Try) > mostForm || max(len(c.Party), len(c.Key)) > mostText {
			continue
		}
		commandFails(t, joined(commandFields(c)), 0, api.ErrKind)
	}
	for _, r := range wrongReplies() {
		if min(r.Saga, r.Step, r.Try) < 0 || max(r.Saga, r.Step, r.Try) > mostForm {
			continue
		}
		replyFails(t, joined(replyFields(r)), 0, api.ErrKind)
	}
	for _, n := range []int{top + 1, mostForm - 1, mostForm} {
		for i := range 3 {
			c, r := command(7, 0, true, 1, "bank", "pay"), api.Reply{Saga: 1, Step: 2, Try: 3, Good: true}
			*[]*int{&c.Saga, &c.Step, &c.Try}[i] = n
			*[]*int{&r.Saga, &r.Step, &r.Try}[i] = n
			commandFails(t, joined(commandFields(c)), 0, api.ErrKind)
			replyFails(t, joined(replyFields(r)), 0, api.ErrKind)
		}
	}
	// Numbers below 0 are no field's.
	for _, n := range []int{lowest, -top, -1} {
		commandFails(t, joined(commandFields(command(n, 0, false, 1, "bank", "pay"))), 0, api.ErrLarge)
		commandFails(t, joined(commandFields(command(7, n, false, 1, "bank", "pay"))), 8, api.ErrLarge)
		commandFails(t, joined(commandFields(command(7, 0, false, n, "bank", "pay"))), 17, api.ErrLarge)
		replyFails(t, joined(replyFields(api.Reply{Saga: n})), 0, api.ErrLarge)
		replyFails(t, joined(replyFields(api.Reply{Step: n})), 8, api.ErrLarge)
		replyFails(t, joined(replyFields(api.Reply{Try: n})), 17, api.ErrLarge)
	}
}

// source takes fields by layer 4's words: how much was taken, and the first error.
type source struct {
	b  []byte
	at int
	e  api.Errno
}

func (s *source) fails(e api.Errno) bool {
	if s.e == api.OK {
		s.e = e
	}
	return s.e != api.OK
}

// head is the number that is next, which isn't taken yet.
func (s *source) head() int {
	if len(s.b)-s.at < 8 {
		s.fails(api.ErrShort)
		return 0
	}
	n := binary.BigEndian.Uint64(s.b[s.at:])
	if n > mostForm {
		s.fails(api.ErrLarge)
		return 0
	}
	return int(n)
}

func (s *source) num() int {
	n := s.head()
	if s.fails(api.OK) {
		return 0
	}
	s.at += 8
	return n
}

func (s *source) text() string {
	n := s.head()
	if n > mostText {
		s.fails(api.ErrLarge)
	} else if n > len(s.b)-s.at-8 {
		s.fails(api.ErrShort)
	}
	if s.fails(api.OK) {
		return ""
	}
	s.at += 8 + n
	return string(s.b[s.at-n : s.at])
}

func (s *source) flag() bool {
	if s.at == len(s.b) {
		s.fails(api.ErrShort)
	} else if s.b[s.at] > 1 {
		s.fails(api.ErrForm)
	}
	if s.fails(api.OK) {
		return false
	}
	s.at++
	return s.b[s.at-1] == 1
}

// ends is the place and the error that is to be answered.
func (s *source) ends(right bool) (int, api.Errno) {
	if s.at < len(s.b) {
		s.fails(api.ErrForm)
	}
	if s.e != api.OK {
		return s.at, s.e
	}
	if !right {
		return 0, api.ErrKind
	}
	return 0, api.OK
}

// takesAs holds that bytes are taken as the chapter's words say, and that what is taken has just that form.
func takesAs(t *testing.T, b []byte) {
	t.Helper()
	s := &source{b: b}
	saga, step, undo, try := s.num(), s.num(), s.flag(), s.num()
	c := api.Command{Saga: saga, Step: step, Undo: undo, Try: try, Party: s.text(), Key: s.text()}
	at, e := s.ends(GoodCommand(c))
	if e != api.OK {
		c = api.Command{}
	} else if !bytes.Equal(PutCommand(c), b) {
		t.Errorf("%s has not the form %s", tell(c), tell(b))
	}
	takesCommand(t, b, c, at, e)
	s = &source{b: b}
	saga, step, undo, try = s.num(), s.num(), s.flag(), s.num()
	r := api.Reply{Saga: saga, Step: step, Undo: undo, Try: try, Good: s.flag()}
	at, e = s.ends(GoodReply(r))
	if e != api.OK {
		r = api.Reply{}
	} else if !bytes.Equal(PutReply(r), b) {
		t.Errorf("%s has not the form %s", tell(r), tell(b))
	}
	takesReply(t, b, r, at, e)
}

// P19.2, P19.4: each byte of a form turned.
func TestTakeBytesTurned(t *testing.T) {
	forms := [][]byte{PutReply(api.Reply{}), PutReply(api.Reply{Saga: 1, Step: 2, Undo: true, Try: top, Good: true})}
	for _, c := range rightCommands()[:6] {
		forms = append(forms, PutCommand(c))
	}
	for _, form := range forms {
		for i := range form {
			for b := range 256 {
				turned := bytes.Clone(form)
				turned[i] = byte(b)
				takesAs(t, turned)
			}
		}
	}
}

// P19.3: the reply to a command, right or not.
func TestAnswer(t *testing.T) {
	for _, c := range append(rightCommands(), wrongCommands()...) {
		for _, good := range []bool{false, true} {
			r := Answer(c, good)
			if r.Saga != c.Saga || r.Step != c.Step || r.Undo != c.Undo || r.Try != c.Try || r.Good != good {
				t.Errorf("Answer(%s, %v) is %s", tell(c), good, tell(r))
			}
		}
	}
	c := api.Command{Saga: 12, Step: 1, Undo: true, Try: 3, Party: "hotel", Key: "12/book/undo"}
	if r := Answer(c, true); r != (api.Reply{Saga: 12, Step: 1, Undo: true, Try: 3, Good: true}) {
		t.Error(tell(r))
	}
	c = api.Command{Saga: lowest, Step: -1, Try: highest}
	if r := Answer(c, false); r != (api.Reply{Saga: lowest, Step: -1, Try: highest}) {
		t.Error(tell(r))
	}
}

// drawnName draws a name, of one rune to the most there may be.
func drawnName(m *mixer) string {
	first := []rune("azAZmé\u0080\u00a0\ufffd\U0010ffff")
	runes := append(first, []rune("0-_9")...)
	l := []rune{pick(m, first)}
	for range m.below(mostName) >> m.below(6) {
		l = append(l, pick(m, runes))
	}
	return string(l)
}

func drawnCommand(m *mixer) api.Command {
	return command(m.number(), m.number(), m.flag(), m.number(), drawnName(m), drawnName(m))
}

func drawnReply(m *mixer) api.Reply {
	return api.Reply{Saga: m.number(), Step: m.number(), Undo: m.flag(), Try: m.number(), Good: m.flag()}
}

// P19.4: drawn right ones come back as they were from their lines and their forms, which are those of the chapter's words.
func TestDrawnAsTheyWere(t *testing.T) {
	m := mixer(19)
	for range 4000 {
		c, r := drawnCommand(&m), drawnReply(&m)
		if !GoodCommand(c) || !GoodReply(r) {
			t.Fatalf("%s or %s isn't right", tell(c), tell(r))
		}
		line := fmt.Sprintf("send %d %d %s %d %s %s", c.Saga, c.Step, wayText(c.Undo), c.Try, c.Party, c.Key)
		if got := CommandLine(c); got != line {
			t.Errorf("%s has the line %q", tell(c), got)
		}
		if got, ok := ReadCommand(CommandLine(c)); !ok || got != c {
			t.Errorf("%s is read as %s", tell(c), tell(got))
		}
		if got := PutCommand(c); !bytes.Equal(got, joined(commandFields(c))) {
			t.Errorf("%s has the form %s", tell(c), tell(got))
		}
		takesCommand(t, PutCommand(c), c, 0, api.OK)
		line = fmt.Sprintf("reply %d %d %s %d %s", r.Saga, r.Step, wayText(r.Undo), r.Try, howText(r.Good))
		if got := ReplyLine(r); got != line {
			t.Errorf("%s has the line %q", tell(r), got)
		}
		if got, ok := ReadReply(ReplyLine(r)); !ok || got != r {
			t.Errorf("%s is read as %s", tell(r), tell(got))
		}
		if got := PutReply(r); !bytes.Equal(got, joined(replyFields(r))) {
			t.Errorf("%s has the form %s", tell(r), tell(got))
		}
		takesReply(t, PutReply(r), r, 0, api.OK)
	}
}

// drawnWord draws a word that may stand in a line, or nearly.
func drawnWord(m *mixer) string {
	words := []string{"send", "reply", "do", "undo", "good", "bad", "0", "1", "7", "07", "-1", "+7", "999999999999999999", "1000000000000000000", "bank", "a", "7/pay/do", "7/pay/undo", "0/a/do", "", "\t", "\xff", "7/pay", "Do"}
	return pick(m, words)
}

// drawnLine draws words in the order of a line, most of which are in their places.
func drawnLine(m *mixer) string {
	words := slices.Clone(pick(m, lines()))
	for range m.below(4) {
		switch i := m.below(len(words)); m.below(4) {
		case 0:
			words = slices.Insert(words, i, drawnWord(m))
		case 1:
			if len(words) > 1 {
				words = slices.Delete(words, i, i+1)
			}
		default:
			words[i] = drawnWord(m)
		}
	}
	return strings.Join(words, " ")
}

// P19.1, P19.4: of drawn lines: what is read is right, and has just that line.
func TestReadDrawn(t *testing.T) {
	m := mixer(1)
	for range 40000 {
		readsAs(t, drawnLine(&m))
	}
	for range 20000 {
		b := make([]byte, m.below(40))
		for i := range b {
			b[i] = "senrplyudogba 0179/\xff\xc3\xa9\n"[m.below(23)]
		}
		readsAs(t, string(b))
	}
}

// P19.2, P19.4: of drawn bytes: what is taken is right, and has just that form.
func TestTakeDrawn(t *testing.T) {
	m := mixer(2)
	for range 30000 {
		b := PutCommand(drawnCommand(&m))
		if m.flag() {
			b = PutReply(drawnReply(&m))
		}
		for range m.below(4) {
			switch i := m.below(len(b) + 1); m.below(4) {
			case 0:
				b = b[:i]
			case 1:
				b = slices.Insert(b, i, byte(m.below(3)))
			default:
				if i < len(b) {
					b[i] = byte(m.below(256))
				}
			}
		}
		takesAs(t, b)
	}
	for range 20000 {
		b := make([]byte, m.below(60))
		for i := range b {
			b[i] = []byte{0, 0, 0, 0, 0, 0, 1, 2, 'a', '/', 255}[m.below(11)]
		}
		takesAs(t, b)
	}
}

// R4: what is put is new, each time.
func TestPutIsNew(t *testing.T) {
	c, r := command(7, 1, true, 2, "bank", "pay"), api.Reply{Saga: 7, Undo: true, Try: 1}
	for _, put := range []func() []byte{func() []byte { return PutCommand(c) }, func() []byte { return PutReply(r) }} {
		first := put()
		want := bytes.Clone(first)
		second := put()
		for i := range first {
			first[i] = 0xaa
		}
		_ = append(first, 0xaa)
		if !bytes.Equal(second, want) || !bytes.Equal(put(), want) {
			t.Error("what was put isn't new")
		}
	}
}

// R4: bytes that are handed in stay, what lies behind their length too, and what is answered doesn't change with them later.
func TestTakenIsNew(t *testing.T) {
	c, r := command(7, 1, true, 2, "bank", "pay"), api.Reply{Saga: 7, Undo: true, Try: 1, Good: true}
	for _, form := range [][]byte{PutCommand(c), PutReply(r), PutCommand(c)[:40], nil, []byte("xyz")} {
		room := append(bytes.Clone(form), "behind its length"...)
		was := bytes.Clone(room)
		b := room[:len(form)]
		gotCommand, _, _ := TakeCommand(b)
		gotReply, _, _ := TakeReply(b)
		if !bytes.Equal(room, was) {
			t.Errorf("%s was written over", tell(form))
		}
		wantCommand, wantReply := gotCommand, gotReply
		wantCommand.Party, wantCommand.Key = strings.Clone(gotCommand.Party), strings.Clone(gotCommand.Key)
		for i := range room {
			room[i] = 0xaa
		}
		if gotCommand != wantCommand || gotReply != wantReply {
			t.Errorf("what was taken of %s changed", tell(form))
		}
		// Nothing behind the length is taken, even where it would go on well.
		if len(form) == 40 {
			copy(room, PutCommand(c))
			commandFails(t, room[:40], 37, api.ErrShort)
		}
	}
}

// P1: each call ends, and none panics, at all arguments.
func TestAnyArguments(t *testing.T) {
	texts := append(noNames(), strings.Repeat(" ", 100000), strings.Repeat("9", 100000), "send "+strings.Repeat("1", 100000), strings.Repeat("send ", 10000), strings.Repeat("/", 100000), strings.Repeat("a", 1<<20), strings.Repeat("\xff", 1000))
	texts = append(texts, noKeys()...)
	for _, s := range texts {
		noLine(t, s)
		takesAs(t, []byte(s))
		for _, n := range []int{lowest, -1, 0, top, top + 1, highest} {
			c := api.Command{Saga: n, Step: n, Undo: true, Try: n, Party: s, Key: s}
			if GoodCommand(c) || CommandLine(c) != "" || len(PutCommand(c)) != 0 {
				t.Errorf("%s is right", tell(c))
			}
		}
		for _, line := range []string{"send " + s + " 0 do 1 bank " + s + "/pay/do", "send 7 0 do " + s + " " + s + " " + s, "reply 0 " + s + " do 1 good", s + " 0 0 do 1 bad"} {
			readsAs(t, line)
		}
	}
}

func Example() {
	c := api.Command{Saga: 7, Undo: true, Try: 1, Party: "bank", Key: "7/pay/undo"}
	fmt.Println(CommandLine(c))
	r := Answer(c, true)
	fmt.Println(ReplyLine(r))
	again, ok := ReadCommand("send 7 0 undo 1 bank 7/pay/undo")
	fmt.Println(again == c, ok, len(PutReply(r)))
	// Output:
	// send 7 0 undo 1 bank 7/pay/undo
	// reply 7 0 undo 1 good
	// true true 26
}
