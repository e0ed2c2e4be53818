package world

import (
	"fmt"
	"math"
	"slices"
	"strconv"
	"strings"
	"testing"

	"usufruct/api"
)

const (
	lowest  = math.MinInt
	highest = math.MaxInt
	top     = 999999999999999999 // the greatest number of a right command
)

// mixer draws numbers by a rule, the same ones each time.
type mixer uint64

func (m *mixer) below(n int) int {
	*m = *m*6364136223846793005 + 1442695040888963407
	return int(uint64(*m)>>33) % n
}

func (m *mixer) flag() bool {
	return m.below(2) == 1
}

func pick[T any](m *mixer, l []T) T {
	return l[m.below(len(l))]
}

// tell is anything, cut short where it is long, without bytes that are no rune's.
func tell(x any) string {
	s := strconv.QuoteToASCII(fmt.Sprintf("%+v", x))
	return s[:min(len(s), 900)]
}

// The commands of these tests, with the replies to them.
var (
	book   = api.Command{Saga: 1, Step: 0, Try: 1, Party: "hotel", Key: "1/book/do"}
	again  = api.Command{Saga: 1, Step: 0, Try: 2, Party: "hotel", Key: "1/book/do"} // another try of book
	unbook = api.Command{Saga: 1, Step: 0, Undo: true, Try: 1, Party: "hotel", Key: "1/book/undo"}
	pay    = api.Command{Saga: 1, Step: 1, Try: 1, Party: "bank", Key: "1/pay/do"}
	other  = api.Command{Saga: 2, Step: 1, Try: 3, Party: "bank", Key: "2/pay/do"}
)

func reply(saga, step int, undo bool, try int, good bool) api.Reply {
	return api.Reply{Saga: saga, Step: step, Undo: undo, Try: try, Good: good}
}

// rights are commands at the edges of what is right.
func rights() []api.Command {
	return []api.Command{
		book, again, unbook, pay, other,
		{Saga: 0, Step: 0, Try: 0, Party: "a", Key: "0/a/do"},
		{Saga: top, Step: top, Try: top, Party: "Z", Key: "999999999999999999/Z/do"},
		{Saga: top, Undo: true, Step: top, Try: top, Party: strings.Repeat("\U0010ffff", 64), Key: "999999999999999999/" + strings.Repeat("é", 64) + "/undo"},
		{Saga: 7, Step: 3, Try: 1, Party: "\ufffd", Key: "7/do/do"},
		{Saga: 7, Step: 3, Undo: true, Try: 1, Party: "b-1_Y", Key: "7/undo/undo"},
	}
}

// wrongs are commands that aren't right, for each reason of layer 19.
func wrongs() []api.Command {
	turn := func(change func(c *api.Command)) api.Command {
		c := book
		change(&c)
		return c
	}
	l := []api.Command{{}}
	for _, n := range []int{-1, top + 1, lowest, highest} {
		l = append(l,
			turn(func(c *api.Command) { c.Saga, c.Key = n, strconv.Itoa(n)+"/book/do" }),
			turn(func(c *api.Command) { c.Saga = n }),
			turn(func(c *api.Command) { c.Step = n }),
			turn(func(c *api.Command) { c.Try = n }))
	}
	for _, name := range []string{"", "0", "-", "_a", "a b", "a/b", "a\x00", "\xff", "a\xff", strings.Repeat("n", 65)} {
		l = append(l,
			turn(func(c *api.Command) { c.Party = name }),
			turn(func(c *api.Command) { c.Key = "1/" + name + "/do" }))
	}
	for _, key := range []string{"", "/", "//", "book", "1/book", "book/do", "1/book/", "/book/do", "1//do", "1/book/do/", "1/book/do/do", "1/book/DO", "1/book/done", "01/book/do", "+1/book/do", "-1/book/do", " 1/book/do", "1/book/do ", "2/book/do", "11/book/do", "1/book/undo", "9999999999999999999/book/do"} {
		l = append(l, turn(func(c *api.Command) { c.Key = key }))
	}
	return append(l, turn(func(c *api.Command) { c.Undo = true }))
}

// seen is all that can be seen of a world.
type seen struct {
	commands []api.Command
	replies  []api.Reply
	keys     []string
}

func look(w *World) seen {
	return seen{w.Commands(), w.Replies(), w.Keys()}
}

func (s seen) same(o seen) bool {
	return slices.Equal(s.commands, o.commands) && slices.Equal(s.replies, o.replies) && slices.Equal(s.keys, o.keys)
}

// expect holds a world against what is to be seen of it.
func expect(t *testing.T, what string, w *World, want seen) {
	t.Helper()
	got := look(w)
	if !got.same(want) {
		t.Errorf("%s: %s, not %s", what, tell(got), tell(want))
	}
	for _, key := range want.keys {
		if !w.Done(key) {
			t.Errorf("%s: %q isn't done", what, key)
		}
	}
}

// fine holds an error against OK.
func fine(t *testing.T, what string, e api.Errno) {
	t.Helper()
	if e != api.OK {
		t.Fatalf("%s: %d", what, e)
	}
}

// filled is a world with three commands and three replies on the way, and one key done.
func filled(t *testing.T) *World {
	t.Helper()
	w := new(World)
	w.Send([]api.Command{book, pay, other})
	fine(t, "book, refused", w.Deliver(0, false, true))
	fine(t, "pay", w.Deliver(1, true, true))
	fine(t, "book, refused again", w.Deliver(0, false, true))
	expect(t, "filled", w, filledSeen())
	return w
}

func filledSeen() seen {
	return seen{
		[]api.Command{book, pay, other},
		[]api.Reply{reply(1, 0, false, 1, false), reply(1, 1, false, 1, true), reply(1, 0, false, 1, false)},
		[]string{"1/pay/do"},
	}
}

// nowhere asks for all that is done at a place at which there is nothing.
func nowhere(t *testing.T, w *World, command, replied int) {
	t.Helper()
	was := look(w)
	for _, good := range []bool{false, true} {
		for _, doubled := range []bool{false, true} {
			if e := w.Deliver(command, good, doubled); e != api.ErrNone {
				t.Errorf("Deliver(%d, %t, %t) = %d", command, good, doubled, e)
			}
		}
	}
	if e := w.Lose(command); e != api.ErrNone {
		t.Errorf("Lose(%d) = %d", command, e)
	}
	for _, doubled := range []bool{false, true} {
		if r, e := w.Reply(replied, doubled); e != api.ErrNone || r != (api.Reply{}) {
			t.Errorf("Reply(%d, %t) = %s, %d", replied, doubled, tell(r), e)
		}
	}
	if e := w.LoseReply(replied); e != api.ErrNone {
		t.Errorf("LoseReply(%d) = %d", replied, e)
	}
	expect(t, fmt.Sprintf("behind places %d and %d, which there aren't", command, replied), w, was)
}

// P21.1: the zero World has nothing on the way, and nothing that was done.
func TestNewWorld(t *testing.T) {
	var w World
	expect(t, "a new world", &w, seen{})
	for _, i := range []int{0, -1, 1, 2, lowest, highest} {
		nowhere(t, &w, i, i)
	}
	for _, key := range []string{"", "1/book/do", "0/a/do", "x"} {
		if w.Done(key) {
			t.Errorf("%q is done", key)
		}
	}
	for _, saga := range []int{0, 1, -1} {
		for _, step := range []string{"", "book", "a"} {
			if n := w.Net(saga, step); n != 0 {
				t.Errorf("Net(%d, %q) = %d", saga, step, n)
			}
		}
	}
	expect(t, "behind all that was asked", &w, seen{})
}

// P21.1: what is right is on the way, in its order.
func TestSendRight(t *testing.T) {
	for n := range len(rights()) + 1 {
		var w World
		w.Send(rights()[:n])
		expect(t, fmt.Sprintf("the first %d", n), &w, seen{commands: rights()[:n]})
	}
	for _, c := range rights() {
		var w World
		w.Send([]api.Command{c})
		expect(t, tell(c), &w, seen{commands: []api.Command{c}})
		w.Send([]api.Command{c, c})
		expect(t, tell(c)+" three times", &w, seen{commands: []api.Command{c, c, c}})
	}
}

// P21.1: what isn't right is on no way, and hinders nothing that is.
func TestSendWrong(t *testing.T) {
	for _, c := range wrongs() {
		var w World
		w.Send([]api.Command{c})
		expect(t, tell(c), &w, seen{})
		w.Send([]api.Command{c, book, c, c, pay, c, book})
		expect(t, tell(c)+" among others", &w, seen{commands: []api.Command{book, pay, book}})
		w.Send([]api.Command{other, c})
		expect(t, tell(c)+" at the end", &w, seen{commands: []api.Command{book, pay, book, other}})
	}
	var w World
	w.Send(wrongs())
	expect(t, "all that are wrong", &w, seen{})
	nowhere(t, &w, 0, 0)
}

// P21.1: what is sent later is behind the others, whatever became of them.
func TestSendBehind(t *testing.T) {
	var w World
	w.Send(nil)
	w.Send([]api.Command{})
	expect(t, "nothing", &w, seen{})
	w.Send([]api.Command{pay})
	w.Send(nil)
	w.Send([]api.Command{book, pay})
	expect(t, "two sends", &w, seen{commands: []api.Command{pay, book, pay}})
	fine(t, "lost", w.Lose(0))
	w.Send([]api.Command{other})
	expect(t, "behind what was lost", &w, seen{commands: []api.Command{book, pay, other}})
	fine(t, "delivered", w.Deliver(1, true, false))
	w.Send([]api.Command{pay})
	expect(t, "behind what was delivered", &w, seen{[]api.Command{book, other, pay}, []api.Reply{reply(1, 1, false, 1, true)}, []string{"1/pay/do"}})
	w.Send(w.Commands())
	expect(t, "what is on the way, once more", &w, seen{[]api.Command{book, other, pay, book, other, pay}, []api.Reply{reply(1, 1, false, 1, true)}, []string{"1/pay/do"}})
}

// P21.1 (R4): what is handed in isn't kept, nor changed, nor what lies behind it.
func TestSendMemory(t *testing.T) {
	all := []api.Command{book, {}, pay, other, unbook}
	var w World
	w.Send(all[:3])
	w.Send(all[:1])
	if !slices.Equal(all, []api.Command{book, {}, pay, other, unbook}) {
		t.Errorf("turned: %s", tell(all))
	}
	for i := range all {
		all[i] = unbook
	}
	expect(t, "written over", &w, seen{commands: []api.Command{book, pay, book}})
}

// P21.1: there is nothing at a place that isn't there, and nothing turns.
func TestNowhere(t *testing.T) {
	for n := range 5 {
		var w World
		for range n {
			w.Send([]api.Command{book, book})
			fine(t, "book", w.Deliver(0, n%2 == 0, false))
		}
		for _, i := range []int{-1, n, n + 1, -n - 1, lowest, highest, lowest + 1, highest - 1, 1 << 32, -1 << 32} {
			nowhere(t, &w, i, i)
		}
	}
	w := filled(t)
	fine(t, "lost", w.Lose(0))
	nowhere(t, w, 2, 3)
	fine(t, "lost", w.LoseReply(0))
	fine(t, "lost", w.LoseReply(0))
	nowhere(t, w, 2, 1)
}

// P21.1: what is delivered leaves its place, unless it is doubled; what it says depends on what was done.
func TestDeliver(t *testing.T) {
	all := []api.Command{book, pay, other}
	for i, c := range all {
		for _, good := range []bool{false, true} {
			for _, doubled := range []bool{false, true} {
				what := fmt.Sprintf("Deliver(%d, %t, %t)", i, good, doubled)
				var w World
				w.Send(all)
				fine(t, what, w.Deliver(i, good, doubled))
				want := seen{commands: slices.Clone(all), replies: []api.Reply{{Saga: c.Saga, Step: c.Step, Try: c.Try, Good: good}}}
				if !doubled {
					want.commands = slices.Delete(want.commands, i, i+1)
				}
				if good {
					want.keys = []string{c.Key}
				}
				expect(t, what, &w, want)
			}
		}
	}
}

// P21.1: at each edge of what is right, the reply is the one to the command.
func TestDeliverEdges(t *testing.T) {
	for _, c := range append(rights(), unbook) {
		for _, good := range []bool{false, true} {
			var w World
			w.Send([]api.Command{c})
			fine(t, tell(c), w.Deliver(0, good, false))
			want := seen{replies: []api.Reply{{Saga: c.Saga, Step: c.Step, Undo: c.Undo, Try: c.Try, Good: good}}}
			if good {
				want.keys = []string{c.Key}
			}
			expect(t, tell(c), &w, want)
		}
	}
}

// P21.1: a key that was done is done, whatever is told; one that was refused may be done yet.
func TestDeliverAgain(t *testing.T) {
	bad, well := reply(1, 0, false, 1, false), reply(1, 0, false, 1, true)
	for _, c := range []struct {
		told    []bool
		replies []api.Reply
		keys    []string
	}{
		{[]bool{false}, []api.Reply{bad}, nil},
		{[]bool{true}, []api.Reply{well}, []string{"1/book/do"}},
		{[]bool{false, false}, []api.Reply{bad, bad}, nil},
		{[]bool{false, true}, []api.Reply{bad, well}, []string{"1/book/do"}},
		{[]bool{true, false}, []api.Reply{well, well}, []string{"1/book/do"}},
		{[]bool{true, true}, []api.Reply{well, well}, []string{"1/book/do"}},
		{[]bool{false, true, false, false}, []api.Reply{bad, well, well, well}, []string{"1/book/do"}},
		{[]bool{false, false, false, true, true, false}, []api.Reply{bad, bad, bad, well, well, well}, []string{"1/book/do"}},
	} {
		var doubled, single World
		doubled.Send([]api.Command{book})
		for i, good := range c.told {
			fine(t, "doubled", doubled.Deliver(0, good, true))
			single.Send([]api.Command{book})
			fine(t, "single", single.Deliver(0, good, false))
			if r := single.Replies(); len(r) != i+1 {
				t.Errorf("%t: %s", c.told, tell(r))
			}
		}
		expect(t, fmt.Sprintf("doubled: %t", c.told), &doubled, seen{[]api.Command{book}, c.replies, c.keys})
		expect(t, fmt.Sprintf("single: %t", c.told), &single, seen{nil, c.replies, c.keys})
	}
}

// P21.1: one key is one key, whichever try, step and party it comes with; another one is another.
func TestDeliverByKey(t *testing.T) {
	far := api.Command{Saga: 1, Step: 8, Try: 9, Party: "bank", Key: "1/book/do"}
	var w World
	w.Send([]api.Command{book, again, far, unbook, pay, {Saga: 2, Try: 1, Party: "hotel", Key: "2/book/do"}, {Saga: 1, Try: 1, Party: "hotel", Key: "1/Book/do"}})
	fine(t, "book", w.Deliver(0, true, false))
	for range 6 {
		fine(t, "behind it", w.Deliver(0, false, false))
	}
	expect(t, "one key", &w, seen{nil, []api.Reply{
		reply(1, 0, false, 1, true), reply(1, 0, false, 2, true), reply(1, 8, false, 9, true),
		reply(1, 0, true, 1, false), reply(1, 1, false, 1, false), reply(2, 0, false, 1, false), reply(1, 0, false, 1, false),
	}, []string{"1/book/do"}})
}

// P21.1: what was delivered, lost or arrived doesn't turn what is done, nor back again.
func TestDoneStays(t *testing.T) {
	w := filled(t)
	for range 3 {
		fine(t, "a reply is lost", w.LoseReply(0))
		fine(t, "a command is lost", w.Lose(0))
	}
	expect(t, "all was lost", w, seen{keys: []string{"1/pay/do"}})
	w.Send([]api.Command{pay, book})
	fine(t, "pay, refused", w.Deliver(0, false, false))
	fine(t, "book, refused", w.Deliver(0, false, false))
	expect(t, "behind it", w, seen{nil, []api.Reply{reply(1, 1, false, 1, true), reply(1, 0, false, 1, false)}, []string{"1/pay/do"}})
}

// P21.1: what is lost leaves its place, and nothing else turns.
func TestLose(t *testing.T) {
	for i := range 3 {
		w, want := filled(t), filledSeen()
		fine(t, "Lose", w.Lose(i))
		want.commands = slices.Delete(want.commands, i, i+1)
		expect(t, fmt.Sprintf("Lose(%d)", i), w, want)

		w, want = filled(t), filledSeen()
		fine(t, "LoseReply", w.LoseReply(i))
		want.replies = slices.Delete(want.replies, i, i+1)
		expect(t, fmt.Sprintf("LoseReply(%d)", i), w, want)
	}
}

// P21.1: a reply that arrives leaves its place, unless it is doubled, and nothing else turns.
func TestReply(t *testing.T) {
	for i := range 3 {
		for _, doubled := range []bool{false, true} {
			w, want := filled(t), filledSeen()
			r, e := w.Reply(i, doubled)
			if e != api.OK || r != want.replies[i] {
				t.Errorf("Reply(%d, %t) = %s, %d", i, doubled, tell(r), e)
			}
			if !doubled {
				want.replies = slices.Delete(want.replies, i, i+1)
			}
			expect(t, fmt.Sprintf("Reply(%d, %t)", i, doubled), w, want)
		}
	}
	var w World
	w.Send([]api.Command{{Saga: top, Step: top, Undo: true, Try: top, Party: "Z", Key: "999999999999999999/Z/undo"}})
	fine(t, "the greatest one", w.Deliver(0, true, false))
	for _, doubled := range []bool{true, true, false} {
		if r, e := w.Reply(0, doubled); e != api.OK || r != reply(top, top, true, top, true) {
			t.Errorf("%s, %d", tell(r), e)
		}
	}
	expect(t, "it arrived", &w, seen{keys: []string{"999999999999999999/Z/undo"}})
}

// P21.2 (R4): what is answered is new; it turns nothing, and nothing turns it.
func TestNewMemory(t *testing.T) {
	w := filled(t)
	for range 3 {
		was := look(w)
		copied := seen{slices.Clone(was.commands), slices.Clone(was.replies), slices.Clone(was.keys)}
		for i := range was.commands {
			was.commands[i] = unbook
		}
		for i := range was.replies {
			was.replies[i] = reply(9, 9, true, 9, true)
		}
		for i := range was.keys {
			was.keys[i] = "9/x/do"
		}
		_, _, _ = append(was.commands, unbook), append(was.replies, api.Reply{}), append(was.keys, "9/x/do")
		_, _, _ = append(was.commands[:1], unbook), append(was.replies[:1], api.Reply{}), append(was.keys[:0], "9/x/do")
		expect(t, "written over and grown", w, copied)
		if w.Done("9/x/do") || w.Net(9, "x") != 0 {
			t.Error("a key came by what was answered")
		}
		fine(t, "on", w.Deliver(0, true, true))
	}
}

// P21.2 (R4): later calls turn nothing that was answered.
func TestAnswersStay(t *testing.T) {
	for i, call := range []func(w *World){
		func(w *World) { fine(t, "lost", w.Lose(0)) },
		func(w *World) { fine(t, "lost", w.Lose(1)); w.Send([]api.Command{unbook}) },
		func(w *World) { fine(t, "lost", w.LoseReply(0)) },
		func(w *World) { w.Reply(0, false) },
		func(w *World) { w.Reply(1, false); fine(t, "well", w.Deliver(0, true, true)) },
		func(w *World) { fine(t, "well", w.Deliver(0, true, false)) },
		func(w *World) { fine(t, "refused", w.Deliver(2, false, false)); w.Send([]api.Command{book}) },
		func(w *World) { w.Send(w.Commands()); w.Send([]api.Command{unbook, unbook}) },
	} {
		w := filled(t)
		was := look(w)
		call(w)
		if !was.same(filledSeen()) {
			t.Errorf("call %d turned it: %s", i, tell(was))
		}
	}
}

// P21.2: done is what was done, not what was refused, is on the way, or is no key.
func TestDone(t *testing.T) {
	var w World
	w.Send([]api.Command{book, unbook, pay, other})
	fine(t, "book", w.Deliver(0, true, false))
	fine(t, "unbook, refused", w.Deliver(0, false, false))
	for key, want := range map[string]bool{
		"1/book/do": true, "1/book/undo": false, "1/pay/do": false, "2/pay/do": false, "3/pay/do": false,
		"": false, "/": false, "1/book": false, "book": false, "1/book/": false, "1/book/d": false, "1/book/do/": false, "1/book/do ": false, " 1/book/do": false,
		"01/book/do": false, "1/Book/do": false, "1/book/DO": false, "\xff": false, "1/book/do\x00": false, strings.Repeat("1/book/do", 9999): false,
	} {
		if w.Done(key) != want {
			t.Errorf("Done(%s) = %t", tell(key), !want)
		}
	}
}

// P21.2: keys stand in the order in which they were done, each once, not in that in which they were sent, nor by their bytes.
func TestKeys(t *testing.T) {
	const n = 300
	var w World
	var keys []string
	for i := range n {
		saga := i * 7 % n
		w.Send([]api.Command{{Saga: saga, Try: 1, Party: "hotel", Key: strconv.Itoa(saga) + "/book/do"}})
	}
	for i := range n {
		at := (n - 1 - i) / 2
		key := w.Commands()[at].Key
		fine(t, "well", w.Deliver(at, true, true))
		fine(t, "once more", w.Deliver(at, i%2 == 0, false))
		keys = append(keys, key)
		if got := w.Keys(); !slices.Equal(got, keys) {
			t.Fatalf("%s, not %s", tell(got), tell(keys))
		}
	}
	if len(w.Commands()) != 0 || len(w.Replies()) != 2*n || len(keys) != n {
		t.Errorf("%d commands, %d replies", len(w.Commands()), len(w.Replies()))
	}
}

// P21.2: what is left of a step is its doing less its undoing.
func TestNet(t *testing.T) {
	do := func(l ...api.Command) *World {
		w := new(World)
		w.Send(l)
		for range l {
			fine(t, "done", w.Deliver(0, true, false))
		}
		return w
	}
	for _, c := range []struct {
		w    *World
		want int
	}{
		{do(), 0}, {do(book), 1}, {do(unbook), -1}, {do(book, unbook), 0}, {do(unbook, book), 0},
		{do(book, again, book), 1}, {do(unbook, unbook), -1}, {do(book, unbook, again, book), 0}, {do(pay, other), 0}, {do(unbook, pay), -1}, {do(pay, book), 1},
	} {
		if n := c.w.Net(1, "book"); n != c.want {
			t.Errorf("%s: Net(1, book) = %d, not %d", tell(c.w.Keys()), n, c.want)
		}
	}
	w := do(book)
	w.Send([]api.Command{unbook, unbook})
	fine(t, "refused", w.Deliver(0, false, false))
	if n := w.Net(1, "book"); n != 1 {
		t.Errorf("an undoing that was refused and one on the way: %d", n)
	}
}

// P21.2: another saga's step is another one, and what is no step's name has nothing left.
func TestNetOfOthers(t *testing.T) {
	w := new(World)
	long := strings.Repeat("é", 64)
	w.Send([]api.Command{book, other, unbook,
		{Saga: top, Party: "a", Key: "999999999999999999/" + long + "/do"},
		{Saga: 0, Undo: true, Party: "a", Key: "0/do/undo"},
		{Saga: 5, Party: "a", Key: "5/undo/do"},
		{Saga: 12, Undo: true, Party: "a", Key: "12/book/undo"}})
	for range w.Commands() {
		fine(t, "done", w.Deliver(0, true, false))
	}
	for _, c := range []struct {
		saga int
		step string
		want int
	}{
		{1, "book", 0}, {2, "pay", 1}, {top, long, 1}, {0, "do", -1}, {5, "undo", 1}, {12, "book", -1},
		{2, "book", 0}, {11, "book", 0}, {0, "book", 0}, {1, "pay", 0}, {0, "pay", 0}, {1, "Book", 0}, {5, "do", 0}, {0, "undo", 0},
		{-1, "book", 0}, {-2, "pay", 0}, {-12, "book", 0}, {lowest, "pay", 0}, {highest, "pay", 0}, {top + 1, long, 0}, {-top, long, 0},
		{2, "", 0}, {0, "", 0}, {-1, "", 0}, {2, "pay/do", 0}, {2, "/pay", 0}, {2, "pay ", 0}, {2, "2/pay", 0}, {2, "\xff", 0}, {2, "pay\x00", 0}, {top, long + "é", 0}, {2, strings.Repeat("pay", 99999), 0},
	} {
		if n := w.Net(c.saga, c.step); n != c.want {
			t.Errorf("Net(%d, %s) = %d, not %d", c.saga, tell(c.step), n, c.want)
		}
	}
}

// paper is a world on paper: all that ever came, each with what became of it.
type paper struct {
	commands []sent
	replies  []told
	keys     []string
}

type sent struct {
	command api.Command
	gone    bool
}

type told struct {
	reply api.Reply
	key   string
	gone  bool
}

// command is where the one at a place stands, or below 0.
func (p *paper) command(place int) int {
	for i, c := range p.commands {
		if c.gone {
			continue
		}
		if place == 0 {
			return i
		}
		place--
	}
	return -1
}

func (p *paper) reply(place int) int {
	for i, r := range p.replies {
		if r.gone {
			continue
		}
		if place == 0 {
			return i
		}
		place--
	}
	return -1
}

func (p *paper) deliver(place int, good, doubled bool) api.Errno {
	i := p.command(place)
	if i < 0 {
		return api.ErrNone
	}
	c := p.commands[i].command
	p.commands[i].gone = !doubled
	before := slices.Contains(p.keys, c.Key)
	if !before && good {
		p.keys = append(p.keys, c.Key)
	}
	p.replies = append(p.replies, told{api.Reply{Saga: c.Saga, Step: c.Step, Undo: c.Undo, Try: c.Try, Good: before || good}, c.Key, false})
	return api.OK
}

func (p *paper) arrive(place int, doubled bool) (api.Reply, api.Errno) {
	i := p.reply(place)
	if i < 0 {
		return api.Reply{}, api.ErrNone
	}
	p.replies[i].gone = !doubled
	return p.replies[i].reply, api.OK
}

func (p *paper) seen() seen {
	var s seen
	for _, c := range p.commands {
		if !c.gone {
			s.commands = append(s.commands, c.command)
		}
	}
	for _, r := range p.replies {
		if !r.gone {
			s.replies = append(s.replies, r.reply)
		}
	}
	s.keys = slices.Clone(p.keys)
	return s
}

// drawnCommand draws one of few keys, so that they come again, and whether it is right.
func drawnCommand(m *mixer) (api.Command, bool) {
	if m.below(6) == 0 {
		return pick(m, wrongs()), false
	}
	saga, step, way := m.below(3), m.below(2), "do"
	c := api.Command{Saga: saga, Step: step, Undo: m.flag(), Try: 1 + m.below(3), Party: pick(m, []string{"hotel", "bank"})}
	if c.Undo {
		way = "undo"
	}
	c.Key = strconv.Itoa(saga) + "/" + []string{"book", "pay"}[step] + "/" + way
	return c, true
}

// turn is one drawn call to both worlds.
func turn(t *testing.T, m *mixer, w *World, p *paper) {
	t.Helper()
	commands, replies := len(w.Commands()), len(w.Replies())
	place := m.below(commands+2) - 1
	back := m.below(replies+2) - 1
	switch m.below(8) {
	case 0, 1:
		var l []api.Command
		for range m.below(4) {
			c, right := drawnCommand(m)
			l = append(l, c)
			if right {
				p.commands = append(p.commands, sent{c, false})
			}
		}
		w.Send(l)
	case 2, 3:
		good, doubled := m.below(3) > 0, m.below(3) == 0
		if got, want := w.Deliver(place, good, doubled), p.deliver(place, good, doubled); got != want {
			t.Fatalf("Deliver(%d, %t, %t) of %d: %d, not %d", place, good, doubled, commands, got, want)
		}
	case 4:
		i, want := p.command(place), api.ErrNone
		if i >= 0 {
			p.commands[i].gone, want = true, api.OK
		}
		if got := w.Lose(place); got != want {
			t.Fatalf("Lose(%d) of %d: %d, not %d", place, commands, got, want)
		}
	case 5, 6:
		doubled := m.below(3) == 0
		r, got := w.Reply(back, doubled)
		if s, want := p.arrive(back, doubled); got != want || r != s {
			t.Fatalf("Reply(%d, %t) of %d: %s, %d, not %s, %d", back, doubled, replies, tell(r), got, tell(s), want)
		}
	case 7:
		i, want := p.reply(back), api.ErrNone
		if i >= 0 {
			p.replies[i].gone, want = true, api.OK
		}
		if got := w.LoseReply(back); got != want {
			t.Fatalf("LoseReply(%d) of %d: %d, not %d", back, replies, got, want)
		}
	}
}

// keyOf is the key of a drawn command's reply.
func keyOf(r api.Reply) string {
	way := "do"
	if r.Undo {
		way = "undo"
	}
	return strconv.Itoa(r.Saga) + "/" + []string{"book", "pay"}[r.Step] + "/" + way
}

// P21.1, P21.2, P21.3: rows of drawn calls, against the world on paper, and by what is seen alone.
func TestDrawnRows(t *testing.T) {
	for row := range 400 {
		m := mixer(row)
		var w World
		var p paper
		var before []string
		for range 120 {
			turn(t, &m, &w, &p)
			s := look(&w)
			if want := p.seen(); !s.same(want) {
				t.Fatalf("row %d: %s, not %s", row, tell(s), tell(want))
			}
			soundKeys(t, before, s)
			before = s.keys
			netsHold(t, &w, s.keys)
		}
	}
}

// soundKeys holds P21.3 by what is seen alone.
func soundKeys(t *testing.T, before []string, s seen) {
	t.Helper()
	if len(s.keys) < len(before) || len(s.keys) > len(before)+1 || !slices.Equal(s.keys[:len(before)], before) {
		t.Fatalf("keys %s behind %s", tell(s.keys), tell(before))
	}
	once := map[string]bool{}
	for _, key := range s.keys {
		if once[key] {
			t.Fatalf("%s twice: %s", key, tell(s.keys))
		}
		once[key] = true
	}
	for _, r := range s.replies {
		if r.Good && !once[keyOf(r)] {
			t.Fatalf("%s, but done are %s", tell(r), tell(s.keys))
		}
	}
}

// netsHold holds Done and Net against the keys.
func netsHold(t *testing.T, w *World, keys []string) {
	t.Helper()
	for saga := range 3 {
		for _, step := range []string{"book", "pay"} {
			head := strconv.Itoa(saga) + "/" + step
			done, undone := slices.Contains(keys, head+"/do"), slices.Contains(keys, head+"/undo")
			want := 0
			if done && !undone {
				want = 1
			}
			if undone && !done {
				want = -1
			}
			if n := w.Net(saga, step); n != want || w.Done(head+"/do") != done || w.Done(head+"/undo") != undone {
				t.Fatalf("Net(%d, %s) = %d, not %d: %s", saga, step, n, want, tell(keys))
			}
		}
	}
}

// R8: the same calls, the same answers.
func TestSameAgain(t *testing.T) {
	for row := range 20 {
		var w, v World
		var p, q paper
		m, n := mixer(row), mixer(row)
		for range 200 {
			turn(t, &m, &w, &p)
			turn(t, &n, &v, &q)
		}
		for range 5 {
			if !look(&w).same(look(&v)) {
				t.Fatalf("row %d: %s, %s", row, tell(look(&w)), tell(look(&v)))
			}
		}
	}
}

// P21.1: two worlds have nothing in common.
func TestTwoWorlds(t *testing.T) {
	var w, v World
	l := []api.Command{book, pay}
	w.Send(l)
	v.Send(l)
	fine(t, "book", w.Deliver(0, true, false))
	expect(t, "the other one", &v, seen{commands: l})
	fine(t, "book, refused", v.Deliver(0, false, false))
	expect(t, "the one", &w, seen{[]api.Command{pay}, []api.Reply{reply(1, 0, false, 1, true)}, []string{"1/book/do"}})
	expect(t, "the other one", &v, seen{[]api.Command{pay}, []api.Reply{reply(1, 0, false, 1, false)}, nil})
}

// P1: every call ends and none panics, at all arguments.
func TestAnyArguments(t *testing.T) {
	m := mixer(21)
	texts := []string{"", "/", "\xff", "a", "1/book/do", "book", strings.Repeat("a", 1<<16), "\x00"}
	numbers := []int{lowest, -1, 0, 1, 2, 5, top, top + 1, highest}
	for range 200 {
		var w World
		for range 50 {
			c := api.Command{Saga: pick(&m, numbers), Step: pick(&m, numbers), Undo: m.flag(), Try: pick(&m, numbers), Party: pick(&m, texts), Key: pick(&m, texts)}
			w.Send([]api.Command{c, book, c})
			w.Deliver(pick(&m, numbers), m.flag(), m.flag())
			w.Lose(pick(&m, numbers))
			w.Reply(pick(&m, numbers), m.flag())
			w.LoseReply(pick(&m, numbers))
			w.Done(pick(&m, texts))
			w.Net(pick(&m, numbers), pick(&m, texts))
			look(&w)
		}
	}
}

// The chapter's example: delivered twice, well, its key is there once, and two good replies are on the way.
func TestExample(t *testing.T) {
	var w World
	w.Send([]api.Command{book})
	fine(t, "first", w.Deliver(0, true, true))
	fine(t, "second", w.Deliver(0, true, false))
	expect(t, "twice", &w, seen{nil, []api.Reply{reply(1, 0, false, 1, true), reply(1, 0, false, 1, true)}, []string{"1/book/do"}})
}
