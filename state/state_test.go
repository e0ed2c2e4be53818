package state

import (
	"bytes"
	"encoding/binary"
	"encoding/hex"
	"fmt"
	"math"
	"reflect"
	"slices"
	"strconv"
	"strings"
	"testing"

	"usufruct/api"
	"usufruct/code"
	"usufruct/def"
	"usufruct/saga"
)

const (
	lowest    = math.MinInt
	highest   = math.MaxInt
	top       = 1 << 62 // the greatest number that has a form of its own
	end       = 1 << 40 // the greatest tick
	lastStart = 1 << 50 // no saga begins, if this is the next one's number
	mostDefs  = 64
	mostSagas = 1 << 20
	mostText  = 65536
	leastText = 8
	kinds     = 11
)

// mixer draws numbers by a rule, the same ones each time.
type mixer uint64

func (m *mixer) below(n int) int {
	*m = *m*6364136223846793005 + 1442695040888963407
	return int(uint64(*m)>>33) % n
}

func (m *mixer) flag() bool {
	return m.below(2) == 1
}

// pick draws one of a list.
func pick[T any](m *mixer, l ...T) T {
	return l[m.below(len(l))]
}

// tell is anything, cut short where it is long, without bytes that are no rune's.
func tell(x any) string {
	s := strconv.QuoteToASCII(fmt.Sprintf("%+v", x))
	if b, ok := x.([]byte); ok {
		s = fmt.Sprintf("%d bytes %x", len(b), b)
	}
	return s[:min(len(s), 900)]
}

// hand is bytes written out by hand: pairs of hexadecimal digits, with blanks between them.
func hand(t *testing.T, rows ...string) []byte {
	t.Helper()
	b, err := hex.DecodeString(strings.Join(strings.Fields(strings.Join(rows, " ")), ""))
	if err != nil {
		t.Fatal(err)
	}
	return b
}

// copied is a state in other memory, whose lists have nothing behind them.
func copied(x api.State) api.State {
	y := api.State{Next: x.Next}
	for _, d := range x.Defs {
		y.Defs = append(y.Defs, api.Def{Name: d.Name, Deadline: d.Deadline, Steps: append([]api.Step{}, d.Steps...)})
	}
	y.Sagas = append(y.Sagas, x.Sagas...)
	return y
}

// copiedEvent is an event in other memory.
func copiedEvent(v api.Event) api.Event {
	v.Def.Steps = append([]api.Step{}, v.Def.Steps...)
	return v
}

// isSameDef tells whether two definitions are, field by field.
func isSameDef(a, b api.Def) bool {
	if a.Name != b.Name || a.Deadline != b.Deadline || len(a.Steps) != len(b.Steps) {
		return false
	}
	for i, s := range a.Steps {
		if s != b.Steps[i] {
			return false
		}
	}
	return true
}

// isSame tells whether two states are, field by field.
func isSame(a, b api.State) bool {
	if a.Next != b.Next || len(a.Defs) != len(b.Defs) || len(a.Sagas) != len(b.Sagas) {
		return false
	}
	for i, d := range a.Defs {
		if !isSameDef(d, b.Defs[i]) {
			return false
		}
	}
	for i, s := range a.Sagas {
		if s != b.Sagas[i] {
			return false
		}
	}
	return true
}

// firstDef and firstSaga are the first ones of a name and a number.
func firstDef(x api.State, name string) (api.Def, bool) {
	for _, d := range x.Defs {
		if d.Name == name {
			return d, true
		}
	}
	return api.Def{}, false
}

func firstSaga(x api.State, id int) (int, bool) {
	for i, s := range x.Sagas {
		if s.ID == id {
			return i, true
		}
	}
	return 0, false
}

// isRight tells whether a state is right, by the chapter's words.
func isRight(x api.State) bool {
	if x.Next < 0 || len(x.Defs) > mostDefs {
		return false
	}
	last := ""
	for i, d := range x.Defs {
		if _, e := def.Check(d); e != api.OK || i > 0 && d.Name <= last {
			return false
		}
		last = d.Name
	}
	below := -1
	for _, s := range x.Sagas {
		d, ok := firstDef(x, s.Def)
		if !ok || s.ID <= below || s.ID >= x.Next || !saga.Good(d, s) {
			return false
		}
		below = s.ID
	}
	return true
}

// said is what Do answers, by the chapter's words.
func said(x api.State, v api.Event, limit int) (api.State, api.Command, api.Errno) {
	y := copied(x)
	var c api.Command
	if !code.Good(v) {
		return y, c, api.ErrForm
	}
	if !isRight(x) {
		return y, c, api.ErrState
	}
	at, there := firstSaga(x, v.Saga)
	switch {
	case v.Kind == api.EvDefine:
		return saidOfDefine(y, v)
	case v.Kind == api.EvStart:
		return saidOfStart(y, v, limit)
	case !there:
		return y, c, api.ErrNone
	case v.Kind == api.EvForget && x.Sagas[at].Phase < api.Completed:
		return y, c, api.ErrState
	case v.Kind == api.EvForget:
		y.Sagas = nil
		for i, s := range x.Sagas {
			if i != at {
				y.Sagas = append(y.Sagas, s)
			}
		}
		return y, c, api.OK
	}
	d, _ := firstDef(x, x.Sagas[at].Def)
	s, c, e := layer14(d, x.Sagas[at], v)
	if e != api.OK {
		return y, api.Command{}, e
	}
	y.Sagas[at] = s
	return y, c, api.OK
}

func saidOfDefine(y api.State, v api.Event) (api.State, api.Command, api.Errno) {
	var c api.Command
	if _, ok := firstDef(y, v.Def.Name); ok {
		return y, c, api.ErrThere
	}
	if len(y.Defs) == mostDefs {
		return y, c, api.ErrFull
	}
	y.Defs = append(y.Defs, v.Def)
	slices.SortFunc(y.Defs, func(a, b api.Def) int { return strings.Compare(a.Name, b.Name) })
	return y, c, api.OK
}

func saidOfStart(y api.State, v api.Event, limit int) (api.State, api.Command, api.Errno) {
	var c api.Command
	switch _, ok := firstDef(y, v.Name); {
	case !ok:
		return y, c, api.ErrNone
	case v.Saga != y.Next:
		return y, c, api.ErrArg
	case len(y.Sagas) >= limit || y.Next >= lastStart:
		return y, c, api.ErrFull
	}
	y.Sagas = append(y.Sagas, api.Saga{ID: v.Saga, Def: v.Name, Start: v.Now, At: v.Now})
	y.Next++
	return y, c, api.OK
}

// layer14 is what layer 14's call of an event's kind answers.
func layer14(d api.Def, s api.Saga, v api.Event) (api.Saga, api.Command, api.Errno) {
	switch v.Kind {
	case api.EvEmit:
		return saga.Emit(d, s, v.Now)
	case api.EvReply:
		next, e := saga.Reply(d, s, v.Reply, v.Now)
		return next, api.Command{}, e
	}
	calls := map[int]func(api.Def, api.Saga, int) (api.Saga, api.Errno){
		4: saga.Late,
		5: saga.Expire,
		6: saga.Cancel,
		7: saga.Retry,
		8: saga.Skip,
		9: saga.Abandon,
	}
	next, e := calls[v.Kind](d, s, v.Now)
	return next, api.Command{}, e
}

// hold holds Do against the chapter, and the rest of what is promised of each call: what is right stays right, what is handed in stays as it is, and behind an error nothing is changed.
func hold(t *testing.T, x api.State, v api.Event, limit int) (api.State, api.Command, api.Errno) {
	t.Helper()
	wasX, wasV := copied(x), copiedEvent(v)
	want, command, wantE := said(x, v, limit)
	y, c, e := Do(x, v, limit)
	if !isSame(y, want) || c != command || e != wantE {
		t.Fatalf("Do(%s, %s, %d) = %s, %s, %d, not %s, %s, %d", tell(x), tell(v), limit, tell(y), tell(c), e, tell(want), tell(command), wantE)
	}
	if !isSame(x, wasX) || !reflect.DeepEqual(copiedEvent(v), wasV) {
		t.Fatalf("Do(%s, %s, %d) changed what was handed in", tell(wasX), tell(wasV), limit)
	}
	if isRight(x) && !isRight(y) {
		t.Fatalf("Do(%s, %s, %d): %s isn't right any more", tell(x), tell(v), limit, tell(y))
	}
	if e != api.OK && !isSame(x, y) {
		t.Fatalf("Do(%s, %s, %d): %d, and the state is %s", tell(x), tell(v), limit, e, tell(y))
	}
	return y, c, e
}

// gives is hold, of an event of which the error is known.
func gives(t *testing.T, x api.State, v api.Event, limit int, e api.Errno) (api.State, api.Command) {
	t.Helper()
	y, c, got := hold(t, x, v, limit)
	if got != e {
		t.Fatalf("Do(%s, %s, %d): %d, not %d", tell(x), tell(v), limit, got, e)
	}
	return y, c
}

// good holds Good against the chapter, and against what is known.
func good(t *testing.T, x api.State, want bool) {
	t.Helper()
	if Good(x) != want || isRight(x) != want {
		t.Errorf("Good(%s) = %t, by the chapter's words %t, not %t", tell(x), Good(x), isRight(x), want)
	}
}

// plan is a right plan of so many retries.
func plan(retries int) api.Plan {
	return api.Plan{Retries: retries, Base: 2, Factor: 2, Cap: 8}
}

// order is a right definition, of as many steps as there are parties.
func order(name string, parties ...string) api.Def {
	d := api.Def{Name: name}
	for i, p := range parties {
		d.Steps = append(d.Steps, api.Step{Name: "s" + strconv.Itoa(i), Party: p, Timeout: 5, Try: plan(1), Undo: plan(1)})
	}
	return d
}

// wide is so many right definitions, by rising names.
func wide(n int) []api.Def {
	var l []api.Def
	for i := range n {
		l = append(l, order(fmt.Sprintf("d%03d", 2*i), "p"))
	}
	return l
}

// row is a state of one definition with two steps, and sagas of it in all phases, between whose numbers there is a free one.
func row() api.State {
	x := api.State{Defs: []api.Def{order("order", "hotel", "bank")}}
	x.Defs[0].Deadline = 40
	for i, s := range []api.Saga{
		{},
		{Tries: 1, Out: true, At: 5},
		{Step: 1, Tries: 1, At: 7},
		{Step: 1, Tries: 2, Out: true, At: 9},
		{Phase: api.Undoing, Step: 1, At: 8},
		{Phase: api.Undoing, Tries: 1, Out: true, At: 9, Skips: 1},
		{Phase: api.Undoing, Tries: 2, Out: true, At: 10},
		{Phase: api.Parked, Tries: 2, At: 11},
		{Phase: api.Parked, Step: 1, Tries: 2, At: 11, Skips: 32},
		{Phase: api.Completed, Step: 1, Tries: 1, At: 12},
		{Phase: api.Compensated, Tries: 1, At: 13},
		{Phase: api.Abandoned, Tries: top, At: 14, Skips: 2},
	} {
		s.ID, s.Def, s.Start = 2*i+1, "order", i%3
		x.Sagas = append(x.Sagas, s)
		x.Next = s.ID + 3
	}
	return x
}

// many is a right state of several definitions, and sagas of each of them.
func many() api.State {
	x := api.State{Defs: []api.Def{order("a", "p"), order("ab", "q", "p"), order("b", "q", "r", "q")}, Next: 20}
	x.Sagas = []api.Saga{
		{ID: 0, Def: "ab", Start: 2, Step: 1, Tries: 1, Out: true, At: 9},
		{ID: 3, Def: "a", Start: 3, At: 3},
		{ID: 4, Def: "b", Start: 3, Phase: api.Undoing, Step: 2, Tries: 2, Out: true, At: 12},
		{ID: 11, Def: "b", Start: 4, Phase: api.Parked, Step: 1, Tries: 2, At: 14, Skips: 3},
		{ID: 19, Def: "a", Start: 5, Phase: api.Completed, Tries: 1, At: 15},
	}
	return x
}

// P16.1: the state of nothing is right, and so are lists that are nil and without elements.
func TestGoodOfNothing(t *testing.T) {
	good(t, api.State{}, true)
	good(t, api.State{Defs: []api.Def{}, Sagas: []api.Saga{}}, true)
	good(t, api.State{Defs: nil, Sagas: []api.Saga{}, Next: 3}, true)
	good(t, api.State{Defs: []api.Def{}, Sagas: nil, Next: 3}, true)
	good(t, row(), true)
	good(t, many(), true)
}

// P16.1: Next is at least 0; it may be any such number.
func TestGoodNext(t *testing.T) {
	for _, n := range []int{lowest, -1 << 50, -2, -1, 0, 1, lastStart - 1, lastStart, lastStart + 1, top, highest} {
		good(t, api.State{Next: n}, n >= 0)
		good(t, api.State{Next: n, Defs: wide(2)}, n >= 0)
	}
}

// P16.1: at most 64 definitions.
func TestGoodCount(t *testing.T) {
	for n, want := range map[int]bool{0: true, 1: true, 2: true, 63: true, 64: true, 65: false, 66: false, 200: false} {
		good(t, api.State{Defs: wide(n)}, want)
	}
}

// P16.1: definitions' names rise, byte by byte, a beginning ahead of what goes on.
func TestGoodNames(t *testing.T) {
	for _, c := range []struct {
		names string
		want  bool
	}{
		{"a", true}, {"a b c d e", true},
		{"a a b c d", false}, {"a b b c d", false}, {"a b c d d", false},
		{"b a c d e", false}, {"a c b d e", false}, {"a b c e d", false},
		{"a b c d a", false}, {"e d c b a", false},
		{"a ab abc b", true}, {"ab a b", false}, {"a abc ab", false},
		{"A a", true}, {"a A", false}, {"a9 aa", true}, {"a10 a9", true}, {"a9 a10", false},
		{"z ä", true}, {"ä z", false}, {"ä ö", true}, {"ö ä", false},
	} {
		x := api.State{}
		for _, name := range strings.Fields(c.names) {
			x.Defs = append(x.Defs, order(name, "p"))
		}
		good(t, x, c.want)
	}
}

// P16.1: each definition is right.
func TestGoodDefs(t *testing.T) {
	spoils := []func(d *api.Def){
		func(d *api.Def) { d.Name += " " },
		func(d *api.Def) { d.Deadline = -1 },
		func(d *api.Def) { d.Deadline = end + 1 },
		func(d *api.Def) { d.Steps = nil },
		func(d *api.Def) { d.Steps[0].Name = "" },
		func(d *api.Def) { d.Steps[1].Name = d.Steps[0].Name },
		func(d *api.Def) { d.Steps[1].Timeout = 0 },
		func(d *api.Def) { d.Steps[1].Undo.Cap = 1 },
		func(d *api.Def) { d.Steps[1].Prio = 256 },
	}
	for i, spoil := range spoils {
		for place := range 5 {
			x := api.State{Next: 9}
			for _, name := range []string{"a", "b", "c", "d", "e"} {
				x.Defs = append(x.Defs, order(name, "p", "q"))
			}
			good(t, x, true)
			spoil(&x.Defs[place])
			if Good(x) || isRight(x) {
				t.Errorf("spoilt by %d at %d: %t", i, place, Good(x))
			}
		}
	}
	good(t, api.State{Defs: []api.Def{{}}}, false)
}

// P16.1: sagas' numbers rise.
func TestGoodNumbers(t *testing.T) {
	for _, c := range []struct {
		numbers []int
		want    bool
	}{
		{[]int{0}, true}, {[]int{5}, true}, {[]int{0, 1, 2, 3}, true}, {[]int{2, 9, 10, 98}, true},
		{[]int{0, 0, 2, 3}, false}, {[]int{0, 2, 2, 3}, false}, {[]int{0, 1, 3, 3}, false},
		{[]int{1, 0, 2, 3}, false}, {[]int{0, 2, 1, 3}, false}, {[]int{0, 1, 3, 2}, false},
		{[]int{9, 10}, true}, {[]int{10, 9}, false}, {[]int{3, 2, 1, 0}, false}, {[]int{1, 2, 3, 0}, false},
	} {
		x := api.State{Defs: []api.Def{order("a", "p")}, Next: 99}
		for _, n := range c.numbers {
			x.Sagas = append(x.Sagas, api.Saga{ID: n, Def: "a"})
		}
		good(t, x, c.want)
	}
}

// P16.1: a saga's number is from 0 on, and below Next.
func TestGoodBelowNext(t *testing.T) {
	for _, next := range []int{1, 2, 7, lastStart, highest} {
		for _, id := range []int{lowest, -2, -1, 0, 1, next - 2, next - 1, next, next + 1, highest} {
			x := api.State{Defs: []api.Def{order("a", "p")}, Sagas: []api.Saga{{ID: id, Def: "a"}}, Next: next}
			good(t, x, 0 <= id && id < next)
			if id > 0 {
				x.Sagas = slices.Insert(x.Sagas, 0, api.Saga{ID: 0, Def: "a"})
				good(t, x, id < next)
			}
		}
	}
	for _, next := range []int{0, -1, lowest} {
		for _, id := range []int{lowest, -1, 0} {
			good(t, api.State{Defs: []api.Def{order("a", "p")}, Sagas: []api.Saga{{ID: id, Def: "a"}}, Next: next}, false)
		}
	}
}

// P16.1: a saga's definition is there, and it is Good for the one of its name.
func TestGoodOwnDef(t *testing.T) {
	x := api.State{Defs: []api.Def{order("a", "p"), order("b", "p", "q", "r")}, Next: 9}
	for _, c := range []struct {
		name string
		step int
		want bool
	}{
		{"a", 0, true}, {"b", 0, true}, {"b", 2, true},
		{"a", 1, false}, {"a", 2, false}, {"b", 3, false},
		{"", 0, false}, {"c", 0, false}, {"ab", 0, false}, {"A", 0, false}, {"b ", 0, false},
	} {
		for place := range 3 {
			y := copied(x)
			y.Sagas = []api.Saga{{ID: 1, Def: "a"}, {ID: 2, Def: "b", Step: 1}, {ID: 3, Def: "b", Step: 2}}
			y.Sagas[place].Def, y.Sagas[place].Step = c.name, c.step
			good(t, y, c.want)
		}
	}
	good(t, api.State{Sagas: []api.Saga{{Def: "a"}}, Next: 1}, false)
	good(t, api.State{Sagas: []api.Saga{{}}, Next: 1}, false)
}

// P16.1: each saga is Good.
func TestGoodSagas(t *testing.T) {
	for i, spoil := range []func(s *api.Saga){
		func(s *api.Saga) { s.Phase = 6 },
		func(s *api.Saga) { s.Phase = -1 },
		func(s *api.Saga) { s.Phase = api.Parked },
		func(s *api.Saga) { s.Step = -1 },
		func(s *api.Saga) { s.Step = 2 },
		func(s *api.Saga) { s.Start = -1 },
		func(s *api.Saga) { s.At = end + 1 },
		func(s *api.Saga) { s.Tries = 3 },
		func(s *api.Saga) { s.Tries = -1 },
		func(s *api.Saga) { s.Out = true },
		func(s *api.Saga) { s.Skips = 33 },
		func(s *api.Saga) { s.Skips = -1 },
	} {
		for place := range 4 {
			x := api.State{Defs: []api.Def{order("a", "p", "q")}, Next: 4}
			for id := range 4 {
				x.Sagas = append(x.Sagas, api.Saga{ID: id, Def: "a"})
			}
			good(t, x, true)
			spoil(&x.Sagas[place])
			if Good(x) || isRight(x) {
				t.Errorf("spoilt by %d at %d: %t", i, place, Good(x))
			}
		}
	}
}

// wrongStates are states that aren't right, in each of the ways in which one may be.
func wrongStates() []api.State {
	var l []api.State
	put := func(spoil func(x *api.State)) {
		x := many()
		spoil(&x)
		l = append(l, x)
	}
	put(func(x *api.State) { x.Next = -1 })
	put(func(x *api.State) { x.Next = 19 })
	put(func(x *api.State) { x.Next = 0 })
	put(func(x *api.State) { x.Defs = append(x.Defs, order("b", "q")) })
	put(func(x *api.State) { x.Defs = append(x.Defs, order("aa", "q")) })
	put(func(x *api.State) { x.Defs[1].Name = "a" })
	put(func(x *api.State) { x.Defs[2], x.Defs[1] = x.Defs[1], x.Defs[2] })
	put(func(x *api.State) { x.Defs[0].Steps = nil })
	put(func(x *api.State) { x.Defs[1].Steps[1].Timeout = 0 })
	put(func(x *api.State) { x.Defs[2].Deadline = end + 1 })
	put(func(x *api.State) { x.Defs = x.Defs[1:] })
	put(func(x *api.State) { x.Defs = nil })
	put(func(x *api.State) { x.Sagas[0].ID = -1 })
	put(func(x *api.State) { x.Sagas[1].ID = 4 })
	put(func(x *api.State) { x.Sagas[1].ID = 5 })
	put(func(x *api.State) { x.Sagas[4].ID = 20 })
	put(func(x *api.State) { x.Sagas[2].Def = "c" })
	put(func(x *api.State) { x.Sagas[2].Def = "a" })
	put(func(x *api.State) { x.Sagas[0].Tries = 0 })
	put(func(x *api.State) { x.Sagas[2].Step = 3 })
	put(func(x *api.State) { x.Sagas[4].Skips = 33 })
	put(func(x *api.State) { x.Sagas = append(x.Sagas, x.Sagas[4]) })
	return append(l, api.State{Next: lowest}, api.State{Defs: wide(65)}, api.State{Defs: []api.Def{{}}}, api.State{Sagas: []api.Saga{{}}, Next: 1})
}

// rightEvents are right events of each kind, most of which can be done in the states of many and row.
func rightEvents() []api.Event {
	l := []api.Event{
		{Kind: api.EvDefine, Def: order("bb", "p")},
		{Kind: api.EvDefine, Now: 3, Def: order("a", "p")},
		{Kind: api.EvStart, Now: 3, Name: "a", Saga: 20},
		{Kind: api.EvStart, Now: 3, Name: "order", Saga: 26},
		{Kind: api.EvStart, Now: 3, Name: "none", Saga: 1},
		{Kind: api.EvReply, Now: 4, Saga: 4, Reply: api.Reply{Saga: 4, Step: 2, Undo: true, Try: 2, Good: true}},
		{Kind: api.EvReply, Now: 4, Reply: api.Reply{Step: 1, Try: 1}},
	}
	for kind := api.EvEmit; kind <= api.EvForget; kind++ {
		for _, id := range []int{0, 1, 3, 4, 11, 19, 23} {
			l = append(l, api.Event{Kind: kind, Now: 9, Saga: id})
		}
	}
	return l
}

// wrongEvents are events that aren't right, of each kind.
func wrongEvents() []api.Event {
	l := []api.Event{
		{Kind: -1}, {Kind: 11}, {Kind: 99}, {Kind: lowest}, {Kind: highest},
		{Kind: api.EvDefine}, {Kind: api.EvDefine, Def: order("b b", "p")}, {Kind: api.EvDefine, Def: order("n")},
		{Kind: api.EvDefine, Def: order("n", "p"), Saga: 1}, {Kind: api.EvDefine, Def: order("n", "p"), Name: "n"},
		{Kind: api.EvDefine, Def: order("a", "p", ""), Now: 2},
		{Kind: api.EvStart, Saga: 20}, {Kind: api.EvStart, Saga: 20, Name: "a "}, {Kind: api.EvStart, Saga: 20, Name: "a", Def: order("a", "p")},
		{Kind: api.EvStart, Saga: 20, Name: "none", Reply: api.Reply{Try: 1}},
		{Kind: api.EvReply, Reply: api.Reply{Saga: -1}}, {Kind: api.EvReply, Reply: api.Reply{Step: -1}}, {Kind: api.EvReply, Reply: api.Reply{Try: -1}},
	}
	for kind := range kinds {
		v := api.Event{Kind: kind, Saga: 4}
		switch kind {
		case api.EvDefine:
			v.Saga, v.Def = 0, order("bb", "p")
		case api.EvStart:
			v.Name = "a"
		}
		for _, now := range []int{lowest, -1, end + 1, highest} {
			v.Now = now
			l = append(l, v)
		}
		v.Now = 1
		for _, id := range []int{lowest, -1} {
			v.Saga = id
			l = append(l, v)
		}
		if kind > api.EvStart {
			l = append(l, api.Event{Kind: kind, Saga: 4, Name: "a"}, api.Event{Kind: kind, Saga: 4, Def: order("a", "p")})
		}
		if kind > api.EvReply {
			l = append(l, api.Event{Kind: kind, Saga: 4, Reply: api.Reply{Good: true}})
		}
	}
	return l
}

// P16.1: an event that isn't right is ErrForm, whether or not the state is right; the state is as it was, and there is no command.
func TestDoWrongEvent(t *testing.T) {
	states := append(wrongStates(), api.State{}, many(), row())
	for _, v := range wrongEvents() {
		for _, x := range states {
			if y, c := gives(t, x, v, 100, api.ErrForm); !isSame(x, y) || c != (api.Command{}) {
				t.Errorf("%s: %s, %s", tell(v), tell(y), tell(c))
			}
		}
	}
}

// P16.1: of a state that isn't right a right event is ErrState, ahead of what else is wrong.
func TestDoWrongState(t *testing.T) {
	for _, x := range wrongStates() {
		good(t, x, false)
		for _, v := range rightEvents() {
			for _, limit := range []int{lowest, 0, 100} {
				if y, c := gives(t, x, v, limit, api.ErrState); !isSame(x, y) || c != (api.Command{}) {
					t.Errorf("%s: %s, %s", tell(v), tell(y), tell(c))
				}
			}
		}
	}
}

// P16.1: EvDefine: the definition is there, at its place by its name; ErrThere and ErrFull, in that order.
func TestDefine(t *testing.T) {
	for _, c := range []struct {
		have, name, want string
	}{
		{"", "b", "b"},
		{"b", "a", "a b"}, {"b", "c", "b c"}, {"b", "ba", "b ba"}, {"ba", "b", "b ba"},
		{"b d f", "a", "a b d f"}, {"b d f", "c", "b c d f"}, {"b d f", "e", "b d e f"}, {"b d f", "g", "b d f g"},
		{"a ab b", "aa", "a aa ab b"}, {"a ab b", "A", "A a ab b"}, {"a ab z", "ä", "a ab z ä"}, {"a9 b", "a10", "a10 a9 b"},
	} {
		x := api.State{Next: 7}
		for _, name := range strings.Fields(c.have) {
			x.Defs = append(x.Defs, order(name, "p"))
			x.Sagas = append(x.Sagas, api.Saga{ID: len(x.Sagas), Def: name})
		}
		d := order(c.name, "q", "r")
		d.Deadline = 9
		y, _ := gives(t, x, api.Event{Kind: api.EvDefine, Now: 4, Def: d}, 0, api.OK)
		var names []string
		for _, one := range y.Defs {
			names = append(names, one.Name)
		}
		if strings.Join(names, " ") != c.want || y.Next != 7 || !slices.Equal(y.Sagas, x.Sagas) {
			t.Errorf("%s to %s: %s", c.name, c.have, tell(y))
		}
		for _, one := range y.Defs {
			if old, ok := firstDef(x, one.Name); ok && !isSameDef(one, old) || !ok && !isSameDef(one, d) {
				t.Errorf("%s to %s: %s", c.name, c.have, tell(one))
			}
		}
		gives(t, y, api.Event{Kind: api.EvDefine, Def: d}, 0, api.ErrThere)
		gives(t, y, api.Event{Kind: api.EvDefine, Def: order(c.name, "p")}, 0, api.ErrThere)
	}
}

// P16.1: EvDefine of 63 and 64 definitions.
func TestDefineFull(t *testing.T) {
	for _, name := range []string{"a", "d001", "d063", "d125", "z"} {
		v := api.Event{Kind: api.EvDefine, Def: order(name, "p")}
		y, _ := gives(t, api.State{Defs: wide(63)}, v, 9, api.OK)
		if len(y.Defs) != 64 {
			t.Errorf("%s: %d", name, len(y.Defs))
		}
		gives(t, y, v, 9, api.ErrThere)
		gives(t, y, api.Event{Kind: api.EvDefine, Def: order("more", "p")}, 9, api.ErrFull)
		gives(t, api.State{Defs: wide(64)}, v, 9, api.ErrFull)
	}
	for _, d := range wide(64) {
		gives(t, api.State{Defs: wide(64)}, api.Event{Kind: api.EvDefine, Def: d}, 9, api.ErrThere)
	}
}

// P16.1: EvStart: a saga begins behind all others, and Next is one more.
func TestStart(t *testing.T) {
	for _, now := range []int{0, 1, 77, end} {
		x := many()
		y, _ := gives(t, x, api.Event{Kind: api.EvStart, Now: now, Saga: 20, Name: "ab"}, 6, api.OK)
		want := append(slices.Clone(x.Sagas), api.Saga{ID: 20, Def: "ab", Start: now, At: now})
		if !slices.Equal(y.Sagas, want) || y.Next != 21 {
			t.Errorf("%d: %s", now, tell(y))
		}
	}
	x := api.State{Defs: wide(64)}
	for i, d := range x.Defs {
		y, _ := gives(t, x, api.Event{Kind: api.EvStart, Now: i, Saga: i, Name: d.Name}, 64, api.OK)
		if s, ok := Find(y, i); !ok || s != (api.Saga{ID: i, Def: d.Name, Start: i, At: i}) || y.Next != i+1 {
			t.Errorf("%d: %s", i, tell(s))
		}
		x = y
	}
}

// P16.1: EvStart's errors, in their order.
func TestStartErrors(t *testing.T) {
	for _, name := range []string{"c", "aa", "A", "abc", "order"} {
		for _, id := range []int{0, 19, 20, 21, highest} {
			for _, limit := range []int{lowest, 0, 5, 6, highest} {
				gives(t, many(), api.Event{Kind: api.EvStart, Saga: id, Name: name}, limit, api.ErrNone)
			}
		}
	}
	for _, id := range []int{0, 1, 18, 19, 21, 22, lastStart, highest} {
		for _, limit := range []int{lowest, -1, 0, 5, 6, highest} {
			gives(t, many(), api.Event{Kind: api.EvStart, Saga: id, Name: "ab"}, limit, api.ErrArg)
		}
	}
	for limit, e := range map[int]api.Errno{lowest: api.ErrFull, -1: api.ErrFull, 0: api.ErrFull, 1: api.ErrFull, 4: api.ErrFull, 5: api.ErrFull, 6: api.OK, 7: api.OK, highest: api.OK} {
		gives(t, many(), api.Event{Kind: api.EvStart, Saga: 20, Name: "ab"}, limit, e)
	}
	for limit, e := range map[int]api.Errno{lowest: api.ErrFull, -1: api.ErrFull, 0: api.ErrFull, 1: api.OK, highest: api.OK} {
		gives(t, api.State{Defs: wide(1)}, api.Event{Kind: api.EvStart, Name: "d000"}, limit, e)
	}
}

// P16.1: no saga begins, if Next is 2^50 or more.
func TestStartLast(t *testing.T) {
	for _, c := range []struct {
		next int
		e    api.Errno
	}{
		{lastStart - 2, api.OK}, {lastStart - 1, api.OK}, {lastStart, api.ErrFull}, {lastStart + 1, api.ErrFull}, {top, api.ErrFull}, {highest, api.ErrFull},
	} {
		x := api.State{Defs: wide(1), Next: c.next}
		y, _ := gives(t, x, api.Event{Kind: api.EvStart, Saga: c.next, Name: "d000"}, highest, c.e)
		if c.e == api.OK && y.Next != c.next+1 {
			t.Errorf("%d: %d", c.next, y.Next)
		}
		gives(t, x, api.Event{Kind: api.EvStart, Saga: c.next - 1, Name: "d000"}, highest, api.ErrArg)
		gives(t, x, api.Event{Kind: api.EvStart, Saga: c.next - 1, Name: "none"}, highest, api.ErrNone)
	}
}

// P16.1: what becomes of a saga is what layer 14's call answers, at the event's Now; all others stay as they are.
func TestActs(t *testing.T) {
	x := row()
	d := x.Defs[0]
	met := map[[2]int]int{}
	for at, s := range x.Sagas {
		for kind := api.EvEmit; kind <= api.EvAbandon; kind++ {
			if kind == api.EvReply {
				continue
			}
			for _, now := range []int{0, 1, 4, 5, 6, 7, 8, 9, 10, 11, 39, 40, 41, 42, 43, end} {
				v := api.Event{Kind: kind, Now: now, Saga: s.ID}
				want, command, e := layer14(d, s, v)
				y, c := gives(t, x, v, 0, e)
				if y.Sagas[at] != want || c != command || (c.Party != "") != (kind == api.EvEmit && e == api.OK) {
					t.Fatalf("%s: %s, %s", tell(v), tell(y.Sagas[at]), tell(c))
				}
				met[[2]int{kind, int(e)}]++
				y.Sagas[at] = s
				if !isSame(x, y) {
					t.Fatalf("%s: %s", tell(v), tell(y))
				}
			}
		}
	}
	for kind := api.EvEmit; kind <= api.EvAbandon; kind++ {
		for _, e := range []api.Errno{api.OK, api.ErrState, api.ErrOver} {
			if kind != api.EvReply && met[[2]int{kind, int(e)}] == 0 {
				t.Errorf("no event of kind %d that is %d", kind, e)
			}
		}
	}
}

// P16.1: what each kind does, by hand.
func TestActsByHand(t *testing.T) {
	x := row()
	for _, c := range []struct {
		kind, now, id int
		want          api.Saga
	}{
		{api.EvEmit, 3, 1, api.Saga{Tries: 1, Out: true, At: 8}},
		{api.EvLate, 5, 3, api.Saga{Start: 1, Tries: 1, At: 7}},
		{api.EvLate, 9, 7, api.Saga{Phase: api.Undoing, At: 9}},
		{api.EvLate, 10, 13, api.Saga{Phase: api.Parked, Tries: 2, At: 10}},
		{api.EvEmit, 8, 9, api.Saga{Start: 1, Phase: api.Undoing, Step: 1, Tries: 1, Out: true, At: 13}},
		{api.EvExpire, 42, 5, api.Saga{Start: 2, Phase: api.Undoing, At: 42}},
		{api.EvExpire, 40, 1, api.Saga{Phase: api.Compensated}},
		{api.EvCancel, 6, 5, api.Saga{Start: 2, Phase: api.Undoing, At: 6}},
		{api.EvCancel, 6, 3, api.Saga{Start: 1, Phase: api.Compensated, Tries: 1, At: 5}},
		{api.EvRetry, 20, 15, api.Saga{Start: 1, Phase: api.Undoing, At: 20}},
		{api.EvSkip, 20, 15, api.Saga{Start: 1, Phase: api.Abandoned, Tries: 2, At: 11, Skips: 1}},
		{api.EvSkip, 20, 17, api.Saga{Start: 2, Phase: api.Undoing, At: 20, Skips: 32}},
		{api.EvAbandon, 20, 17, api.Saga{Start: 2, Phase: api.Abandoned, Step: 1, Tries: 2, At: 11, Skips: 32}},
	} {
		y, _ := gives(t, x, api.Event{Kind: c.kind, Now: c.now, Saga: c.id}, 0, api.OK)
		c.want.ID, c.want.Def = c.id, "order"
		if s, ok := Find(y, c.id); !ok || s != c.want {
			t.Errorf("kind %d of %d: %s", c.kind, c.id, tell(s))
		}
	}
	_, command := gives(t, x, api.Event{Kind: api.EvEmit, Now: 8, Saga: 9}, 0, api.OK)
	if command != (api.Command{Saga: 9, Step: 1, Undo: true, Try: 1, Party: "bank", Key: "9/s1/undo"}) {
		t.Errorf("%s", tell(command))
	}
}

// P16.1: of a saga that isn't there: ErrNone, of each kind.
func TestActsOfNone(t *testing.T) {
	for kind := api.EvEmit; kind <= api.EvForget; kind++ {
		for _, id := range []int{0, 2, 12, 22, 24, 25, 26, 27, lastStart, top, highest} {
			v := api.Event{Kind: kind, Now: 9, Saga: id}
			if kind == api.EvReply {
				v.Reply = api.Reply{Saga: 3, Try: 1, Good: true}
			}
			gives(t, row(), v, 99, api.ErrNone)
			gives(t, api.State{Next: 99}, v, 99, api.ErrNone)
		}
	}
}

// P16.1: the event's Saga names the saga; a reply whose own Saga is another's is ErrNone by layer 14.
func TestReply(t *testing.T) {
	x := row()
	for _, c := range []struct {
		id int
		r  api.Reply
		e  api.Errno
	}{
		{3, api.Reply{Saga: 3, Try: 1, Good: true}, api.OK},
		{3, api.Reply{Saga: 3, Try: 1}, api.OK},
		{7, api.Reply{Saga: 7, Step: 1, Try: 1, Good: true}, api.OK},
		{7, api.Reply{Saga: 7, Step: 1, Try: 1}, api.ErrLate},
		{7, api.Reply{Saga: 7, Step: 1, Try: 2}, api.OK},
		{11, api.Reply{Saga: 11, Undo: true, Try: 1, Good: true}, api.OK},
		{11, api.Reply{Saga: 11, Try: 1, Good: true}, api.ErrLate},
		{3, api.Reply{Saga: 5, Try: 1, Good: true}, api.ErrNone},
		{3, api.Reply{Saga: 7, Step: 1, Try: 2, Good: true}, api.ErrNone},
		{3, api.Reply{Saga: 2, Try: 1, Good: true}, api.ErrNone},
		{3, api.Reply{Saga: highest, Try: 1, Good: true}, api.ErrNone},
		{4, api.Reply{Saga: 3, Try: 1, Good: true}, api.ErrNone},
		{1, api.Reply{Saga: 1, Try: 1, Good: true}, api.ErrLate},
		{3, api.Reply{Saga: 3, Step: 1, Try: 1, Good: true}, api.ErrLate},
		{15, api.Reply{Saga: 15, Undo: true, Try: 2, Good: true}, api.ErrLate},
		{19, api.Reply{Saga: 19, Step: 1, Try: 1, Good: true}, api.ErrOver},
		{21, api.Reply{Saga: 3, Try: 1, Good: true}, api.ErrOver},
		{23, api.Reply{Saga: 23}, api.ErrOver},
	} {
		for _, now := range []int{0, 9, end} {
			v := api.Event{Kind: api.EvReply, Now: now, Saga: c.id, Reply: c.r}
			y, command := gives(t, x, v, 0, c.e)
			if command != (api.Command{}) {
				t.Errorf("%s: %s", tell(v), tell(command))
			}
			if at, ok := firstSaga(x, c.id); ok {
				y.Sagas[at] = x.Sagas[at]
			}
			if !isSame(x, y) {
				t.Errorf("%s: others are %s", tell(v), tell(y))
			}
		}
	}
	y, _ := gives(t, x, api.Event{Kind: api.EvReply, Now: 6, Saga: 3, Reply: api.Reply{Saga: 3, Try: 1, Good: true}}, 0, api.OK)
	if s, _ := Find(y, 3); s != (api.Saga{ID: 3, Def: "order", Start: 1, Step: 1, At: 6}) {
		t.Errorf("%s", tell(s))
	}
	y, _ = gives(t, x, api.Event{Kind: api.EvReply, Now: 6, Saga: 7, Reply: api.Reply{Saga: 7, Step: 1, Try: 2}}, 0, api.OK)
	if s, _ := Find(y, 7); s != (api.Saga{ID: 7, Def: "order", Phase: api.Undoing, At: 6}) {
		t.Errorf("%s", tell(s))
	}
}

// P16.1: EvForget: of what is over the saga isn't there any more, and nothing else is changed; of anything else ErrState.
func TestForget(t *testing.T) {
	x := row()
	for at, s := range x.Sagas {
		for _, now := range []int{0, 9, end} {
			v := api.Event{Kind: api.EvForget, Now: now, Saga: s.ID}
			if s.Phase <= api.Parked {
				gives(t, x, v, 99, api.ErrState)
				continue
			}
			y, c := gives(t, x, v, 99, api.OK)
			others := slices.Delete(slices.Clone(x.Sagas), at, at+1)
			if !slices.Equal(y.Sagas, others) || y.Next != x.Next || len(y.Defs) != 1 || !isSameDef(x.Defs[0], y.Defs[0]) || c != (api.Command{}) {
				t.Errorf("%d: %s", s.ID, tell(y))
			}
			gives(t, y, v, 99, api.ErrNone)
		}
	}
	y := copied(x)
	y.Sagas = []api.Saga{{ID: 25, Def: "order", Phase: api.Completed}}
	if y, _ = gives(t, y, api.Event{Kind: api.EvForget, Saga: 25}, 0, api.OK); len(y.Sagas) != 0 || y.Next != 26 {
		t.Errorf("the only one: %s", tell(y))
	}
}

// P16.2: the saga of a number, and the definition of a name; false where there is none.
func TestFind(t *testing.T) {
	x := row()
	for _, id := range []int{lowest, -1, 0, 1, 2, 3, 4, 11, 12, 13, 22, 23, 24, 25, 26, 27, lastStart, highest} {
		s, ok := Find(x, id)
		at, there := firstSaga(x, id)
		if ok != there || ok && s != x.Sagas[at] || !ok && s != (api.Saga{}) {
			t.Errorf("%d: %s, %t", id, tell(s), ok)
		}
	}
	for _, id := range []int{-1, 0, 1} {
		if s, ok := Find(api.State{Next: 1}, id); ok || s != (api.Saga{}) {
			t.Errorf("of nothing: %s, %t", tell(s), ok)
		}
	}
	for i, d := range many().Defs {
		if got, ok := Def(many(), d.Name); !ok || !isSameDef(got, d) {
			t.Errorf("%d: %s, %t", i, tell(got), ok)
		}
	}
	for _, name := range []string{"", "A", "aa", "abc", "c", "a ", " a", "a/b", "\xff", strings.Repeat("a", 65)} {
		if d, ok := Def(many(), name); ok || !isSameDef(d, api.Def{}) {
			t.Errorf("%q: %s, %t", name, tell(d), ok)
		}
		if d, ok := Def(api.State{}, name); ok || !isSameDef(d, api.Def{}) {
			t.Errorf("of nothing, %q: %s, %t", name, tell(d), ok)
		}
	}
}

// P16.2: of a state that isn't right the first one is found.
func TestFindFirst(t *testing.T) {
	x := api.State{Next: -1}
	for i, id := range []int{9, 4, 4, -1, 9, lowest, 3, highest, 3} {
		x.Sagas = append(x.Sagas, api.Saga{ID: id, Step: i, Phase: -i})
	}
	for id, step := range map[int]int{9: 0, 4: 1, -1: 3, lowest: 5, 3: 6, highest: 7} {
		if s, ok := Find(x, id); !ok || s.Step != step {
			t.Errorf("%d: %s, %t", id, tell(s), ok)
		}
	}
	if s, ok := Find(x, 0); ok || s != (api.Saga{}) {
		t.Errorf("0: %s, %t", tell(s), ok)
	}
	for i, name := range []string{"m", "b", "b", "", "m", "no name", "a", "a", "\xff"} {
		x.Defs = append(x.Defs, api.Def{Name: name, Deadline: -i})
	}
	for name, at := range map[string]int{"m": 0, "b": 1, "": 3, "no name": 5, "a": 6, "\xff": 8} {
		if d, ok := Def(x, name); !ok || d.Deadline != -at {
			t.Errorf("%q: %s, %t", name, tell(d), ok)
		}
	}
	if d, ok := Def(x, "c"); ok || !isSameDef(d, api.Def{}) {
		t.Errorf("c: %s, %t", tell(d), ok)
	}
}

// flying is how many have a try out whose step is that party's, by the chapter's words.
func flying(x api.State, party string) int {
	n := 0
	for _, s := range x.Sagas {
		d, ok := firstDef(x, s.Def)
		if isRight(x) && ok && s.Out && d.Steps[s.Step].Party == party {
			n++
		}
	}
	return n
}

// P16.2: how many have a try out to a party, in both directions.
func TestFlying(t *testing.T) {
	for party, n := range map[string]int{"hotel": 3, "bank": 1, "": 0, "hote": 0, "hotels": 0, "order": 0, "s0": 0, "\xff": 0} {
		if got := Flying(row(), party); got != n || flying(row(), party) != n {
			t.Errorf("%q: %d, not %d", party, got, n)
		}
	}
	for party, n := range map[string]int{"p": 1, "q": 1, "r": 0, "a": 0} {
		if got := Flying(many(), party); got != n || flying(many(), party) != n {
			t.Errorf("%q: %d, not %d", party, got, n)
		}
	}
	x := api.State{Defs: []api.Def{order("a", "p", "q", "p")}, Next: 99}
	for i := range 30 {
		x.Sagas = append(x.Sagas, api.Saga{ID: i, Def: "a", Phase: i % 2, Step: i % 3, Tries: 1, Out: i%5 > 0})
	}
	if p, q, none := Flying(x, "p"), Flying(x, "q"), Flying(x, "r"); p != 16 || q != 8 || none != 0 {
		t.Errorf("%d, %d, %d", p, q, none)
	}
	if n := Flying(api.State{}, ""); n != 0 {
		t.Errorf("of nothing: %d", n)
	}
}

// P16.2: of a state that isn't right nothing is out.
func TestFlyingOfWrong(t *testing.T) {
	for _, x := range wrongStates() {
		for _, party := range []string{"p", "q", "r", ""} {
			if n := Flying(x, party); n != 0 {
				t.Errorf("%s, %q: %d", tell(x), party, n)
			}
		}
	}
	x := api.State{Defs: []api.Def{{Name: "a", Steps: []api.Step{{}}}}, Sagas: []api.Saga{{Def: "a", Tries: 1, Out: true}}, Next: 1}
	if n := Flying(x, ""); n != 0 {
		t.Errorf("%d", n)
	}
}

// unlike are states that are unlike another one in a single field each.
func unlike(x api.State) []api.State {
	var l []api.State
	put := func(change func(y *api.State)) {
		y := copied(x)
		change(&y)
		l = append(l, y)
	}
	for i := range x.Defs {
		for j := range reflect.TypeFor[api.Def]().NumField() {
			put(func(y *api.State) { change(reflect.ValueOf(&y.Defs[i]).Elem().Field(j)) })
		}
		for k := range x.Defs[i].Steps {
			for j := range reflect.TypeFor[api.Step]().NumField() {
				if f := reflect.TypeFor[api.Step]().Field(j); f.Type.Kind() != reflect.Struct {
					put(func(y *api.State) { change(reflect.ValueOf(&y.Defs[i].Steps[k]).Elem().Field(j)) })
				}
			}
			for j := range reflect.TypeFor[api.Plan]().NumField() {
				put(func(y *api.State) { change(reflect.ValueOf(&y.Defs[i].Steps[k].Try).Elem().Field(j)) })
				put(func(y *api.State) { change(reflect.ValueOf(&y.Defs[i].Steps[k].Undo).Elem().Field(j)) })
			}
		}
	}
	for i := range x.Sagas {
		for j := range reflect.TypeFor[api.Saga]().NumField() {
			put(func(y *api.State) { change(reflect.ValueOf(&y.Sagas[i]).Elem().Field(j)) })
		}
	}
	put(func(y *api.State) { y.Next++ })
	put(func(y *api.State) { y.Defs = y.Defs[1:] })
	put(func(y *api.State) { y.Defs = y.Defs[:len(y.Defs)-1] })
	put(func(y *api.State) { y.Defs = append(y.Defs, y.Defs[0]) })
	put(func(y *api.State) { y.Defs[0], y.Defs[1] = y.Defs[1], y.Defs[0] })
	put(func(y *api.State) { y.Defs[2].Steps[0], y.Defs[2].Steps[1] = y.Defs[2].Steps[1], y.Defs[2].Steps[0] })
	put(func(y *api.State) { y.Defs[1].Steps = append(y.Defs[1].Steps, api.Step{}) })
	put(func(y *api.State) { y.Sagas = y.Sagas[1:] })
	put(func(y *api.State) { y.Sagas = y.Sagas[:len(y.Sagas)-1] })
	put(func(y *api.State) { y.Sagas = append(y.Sagas, api.Saga{}) })
	put(func(y *api.State) { y.Sagas[0], y.Sagas[1] = y.Sagas[1], y.Sagas[0] })
	put(func(y *api.State) { y.Defs = nil })
	put(func(y *api.State) { y.Sagas = nil })
	return l
}

// change makes a field another one.
func change(f reflect.Value) {
	switch f.Kind() {
	case reflect.Int:
		f.SetInt(f.Int() + 1)
	case reflect.String:
		f.SetString(f.String() + "x")
	case reflect.Bool:
		f.SetBool(!f.Bool())
	case reflect.Slice:
		f.Set(f.Slice(0, f.Len()-1))
	default:
		panic(f.Kind())
	}
}

// P16.2: two states are the same, if all of their fields are.
func TestSame(t *testing.T) {
	for _, x := range []api.State{{}, {Next: -1}, row(), many(), wrongStates()[4]} {
		if !Same(x, x) || !Same(x, copied(x)) || !Same(copied(x), x) {
			t.Errorf("%s isn't the same", tell(x))
		}
	}
	for _, y := range unlike(many()) {
		if Same(many(), y) || Same(y, many()) || !Same(y, copied(y)) {
			t.Errorf("%s is the same", tell(y))
		}
	}
	if none, empty := (api.State{}), (api.State{Defs: []api.Def{}, Sagas: []api.Saga{}}); !Same(none, empty) || !Same(empty, none) {
		t.Error("nil and no elements")
	}
	if none, empty := (api.State{Defs: []api.Def{{}}}), (api.State{Defs: []api.Def{{Steps: []api.Step{}}}}); !Same(none, empty) || !Same(empty, none) {
		t.Error("nil and no steps")
	}
}

// eight are a number's eight bytes, the highest first.
func eight(n uint64) []byte {
	return binary.BigEndian.AppendUint64(nil, n)
}

// numForm is a number's form, textForm a text's.
func numForm(n int) []byte {
	return eight(uint64(max(0, min(n, top))))
}

func textForm(b []byte) []byte {
	return append(eight(uint64(len(b))), b...)
}

// joined is forms one behind the other.
func joined(forms ...[]byte) []byte {
	return slices.Concat(forms...)
}

// formOf is a state's form, by the chapter's words, of definitions and sagas by layer 15.
func formOf(x api.State) []byte {
	b := append(numForm(x.Next), numForm(len(x.Defs))...)
	for _, d := range x.Defs {
		b = append(b, textForm(code.PutDef(d))...)
	}
	b = append(b, numForm(len(x.Sagas))...)
	for _, s := range x.Sagas {
		b = append(b, textForm(code.PutSaga(s))...)
	}
	return b
}

// source takes fields by layer 4's words, up to the first that fails.
type source struct {
	b         []byte
	at, place int
	e         api.Errno
}

// num takes a number, if the rest that is asked of it holds: at most so much, and so many bytes for each.
func (s *source) num(most, each int) int {
	if s.e != api.OK {
		return 0
	}
	left := s.b[s.at:]
	n := 0
	switch {
	case len(left) < 8:
		s.e = api.ErrShort
	case binary.BigEndian.Uint64(left) > uint64(most):
		s.e = api.ErrLarge
	default:
		n = int(binary.BigEndian.Uint64(left))
		if each > 0 && n > (len(left)-8)/each {
			s.e = api.ErrShort
		}
	}
	if s.e != api.OK {
		s.place = s.at
		return 0
	}
	s.at += 8
	return n
}

// texts takes a count, and so many texts.
func (s *source) texts(most int) [][]byte {
	var l [][]byte
	for range s.num(most, leastText) {
		n := s.num(mostText, 1)
		l = append(l, s.b[s.at:s.at+n])
		s.at += n
	}
	return l
}

// wanted is what the chapter has bytes taken for.
func wanted(b []byte) (api.State, int, api.Errno) {
	s := &source{b: b}
	x := api.State{Next: s.num(top, 0)}
	defs := s.texts(mostDefs)
	sagas := s.texts(mostSagas)
	if s.e != api.OK {
		return api.State{}, s.place, s.e
	}
	if s.at < len(b) {
		return api.State{}, s.at, api.ErrForm
	}
	for _, form := range defs {
		d, _, e := code.TakeDef(form)
		if e != api.OK {
			return api.State{}, 0, api.ErrKind
		}
		x.Defs = append(x.Defs, d)
	}
	for _, form := range sagas {
		one, _, e := code.TakeSaga(form)
		if e != api.OK {
			return api.State{}, 0, api.ErrKind
		}
		x.Sagas = append(x.Sagas, one)
	}
	if !isRight(x) {
		return api.State{}, 0, api.ErrKind
	}
	return x, 0, api.OK
}

// taken holds Take against the chapter.
func taken(t *testing.T, b []byte) (api.State, int, api.Errno) {
	t.Helper()
	was := bytes.Clone(b)
	x, at, e := Take(b)
	want, place, wantE := wanted(b)
	if !isSame(x, want) || at != place || e != wantE {
		t.Fatalf("Take(%s) = %s, %d, %d, not %s, %d, %d", tell(b), tell(x), at, e, tell(want), place, wantE)
	}
	if !bytes.Equal(b, was) {
		t.Fatalf("Take(%s) changed the bytes", tell(was))
	}
	if e != api.OK && !isSame(x, api.State{}) {
		t.Fatalf("Take(%s): %d, and %s", tell(b), e, tell(x))
	}
	if e == api.OK && !bytes.Equal(Put(x), b) {
		t.Fatalf("Take(%s): its form is %s", tell(b), tell(Put(x)))
	}
	return x, at, e
}

// ends holds Take against the chapter, and against what is known.
func ends(t *testing.T, b []byte, at int, e api.Errno) {
	t.Helper()
	if _, gotAt, gotE := taken(t, b); gotAt != at || gotE != e {
		t.Errorf("Take(%s): %d, %d, not %d, %d", tell(b), gotAt, gotE, at, e)
	}
}

// put holds Put against the chapter.
func put(t *testing.T, x api.State) []byte {
	t.Helper()
	was := copied(x)
	b := Put(x)
	if !bytes.Equal(b, formOf(x)) || !isSame(x, was) {
		t.Fatalf("Put(%s) = %s, not %s", tell(was), tell(b), tell(formOf(was)))
	}
	return b
}

// tiny is a definition of one step, and form its form by hand, as a text.
func tiny() api.Def {
	return api.Def{Name: "a", Deadline: 9, Steps: []api.Step{{Name: "s", Party: "p", Timeout: 5, Try: plan(1), Undo: plan(3), Prio: 255}}}
}

const (
	tinyForm = `
		000000000000007b
		0000000000000001 61  0000000000000009  0000000000000001
		0000000000000001 73  0000000000000001 70  0000000000000005
		0000000000000001 0000000000000002 0000000000000002 0000000000000008
		0000000000000003 0000000000000002 0000000000000002 0000000000000008
		00000000000000ff`
	firstForm = `
		0000000000000042
		0000000000000000  0000000000000001 61
		0000000000000007 0000000000000000 0000000000000000 0000000000000001
		01  000000000000000c 0000000000000000`
	otherForm = `
		0000000000000042
		0000000000000003  0000000000000001 61
		0000000000000008 0000000000000005 0000000000000000 0000000000000004
		00  000000000000000d 0000000000000020`
)

// tinySagas are sagas of tiny, whose forms are firstForm and otherForm.
func tinySagas() []api.Saga {
	return []api.Saga{
		{ID: 0, Def: "a", Start: 7, Tries: 1, Out: true, At: 12},
		{ID: 3, Def: "a", Start: 8, Phase: api.Abandoned, Tries: 4, At: 13, Skips: 32},
	}
}

// P16.3: forms by hand, of states right and not; those of right ones are taken again.
func TestPutByHand(t *testing.T) {
	for _, c := range []struct {
		x    api.State
		form string
		e    api.Errno
	}{
		{api.State{}, `0000000000000000 0000000000000000 0000000000000000`, api.OK},
		{api.State{Defs: []api.Def{}, Sagas: []api.Saga{}}, `0000000000000000 0000000000000000 0000000000000000`, api.OK},
		{api.State{Next: 258}, `0000000000000102 0000000000000000 0000000000000000`, api.OK},
		{api.State{Next: top}, `4000000000000000 0000000000000000 0000000000000000`, api.OK},
		{api.State{Defs: []api.Def{tiny()}}, `0000000000000000 0000000000000001` + tinyForm + `0000000000000000`, api.OK},
		{api.State{Defs: []api.Def{tiny()}, Sagas: tinySagas(), Next: 4}, `0000000000000004 0000000000000001` + tinyForm + `0000000000000002` + firstForm + otherForm, api.OK},
		{api.State{Defs: []api.Def{tiny()}, Sagas: tinySagas(), Next: 3}, `0000000000000003 0000000000000001` + tinyForm + `0000000000000002` + firstForm + otherForm, api.ErrKind},
		{api.State{Defs: []api.Def{tiny()}, Sagas: []api.Saga{tinySagas()[1], tinySagas()[0]}, Next: 4}, `0000000000000004 0000000000000001` + tinyForm + `0000000000000002` + otherForm + firstForm, api.ErrKind},
		{api.State{Defs: []api.Def{tiny(), tiny()}, Next: 4}, `0000000000000004 0000000000000002` + tinyForm + tinyForm + `0000000000000000`, api.ErrKind},
		{api.State{Sagas: tinySagas()[:1], Next: 4}, `0000000000000004 0000000000000000 0000000000000001` + firstForm, api.ErrKind},
		{api.State{Defs: []api.Def{{}}}, `0000000000000000 0000000000000001 0000000000000018 0000000000000000 0000000000000000 0000000000000000 0000000000000000`, api.ErrKind},
		{api.State{Next: -1}, `0000000000000000 0000000000000000 0000000000000000`, api.OK},
		{api.State{Next: lowest}, `0000000000000000 0000000000000000 0000000000000000`, api.OK},
		{api.State{Next: top + 1}, `4000000000000000 0000000000000000 0000000000000000`, api.OK},
		{api.State{Next: highest}, `4000000000000000 0000000000000000 0000000000000000`, api.OK},
	} {
		want := hand(t, c.form)
		if b := put(t, c.x); !bytes.Equal(b, want) {
			t.Errorf("%s: %s, not %s", tell(c.x), tell(b), tell(want))
		}
		x, at, e := taken(t, want)
		if at != 0 || e != c.e || e == api.OK && 0 <= c.x.Next && c.x.Next <= top && !Same(x, c.x) {
			t.Errorf("%s: %s, %d, %d", tell(c.x), tell(x), at, e)
		}
	}
}

// P16.3: a right state's form is taken as it was; one that isn't right is put likewise, and its form is none.
func TestPutAndTake(t *testing.T) {
	for _, x := range []api.State{{}, row(), many(), {Defs: wide(64), Next: top}} {
		if y, at, e := taken(t, put(t, x)); at != 0 || e != api.OK || !Same(x, y) {
			t.Errorf("%s: %s, %d, %d", tell(x), tell(y), at, e)
		}
	}
	for i, x := range wrongStates() {
		_, at, e := taken(t, put(t, x))
		switch {
		case i == 0 && (at != 0 || e != api.ErrKind): // Next below 0 is put as 0, and there are sagas
			t.Errorf("%d: %d, %d", i, at, e)
		case len(x.Defs) > mostDefs && (at != 8 || e != api.ErrLarge):
			t.Errorf("%d: %d, %d", i, at, e)
		case x.Next == lowest && e != api.OK:
			t.Errorf("%d: %d, %d", i, at, e)
		case x.Next >= 0 && len(x.Defs) <= mostDefs && x.Sagas != nil && x.Sagas[0].ID >= 0 && (at != 0 || e != api.ErrKind):
			t.Errorf("%d: %d, %d", i, at, e)
		}
	}
}

// P16.3: forms that are cut off, at every length, and that have bytes behind them.
func TestTakeCut(t *testing.T) {
	for _, x := range []api.State{{Next: 5}, {Defs: []api.Def{tiny()}, Sagas: tinySagas(), Next: 4}, many()} {
		b := put(t, x)
		for n := range b {
			if _, _, e := taken(t, b[:n]); e != api.ErrShort {
				t.Errorf("%d of %d: %d", n, len(b), e)
			}
		}
		for _, more := range [][]byte{{0}, {1}, {0xff}, make([]byte, 8), b} {
			ends(t, joined(b, more), len(b), api.ErrForm)
		}
	}
	b := put(t, api.State{Defs: []api.Def{tiny()}, Sagas: tinySagas(), Next: 4})
	for n, at := range map[int]int{0: 0, 7: 0, 8: 8, 15: 8, 16: 8, 23: 8, 24: 16, 146: 16, 147: 147, 154: 147, 155: 147, 170: 147, 171: 155, 228: 155, 229: 229, 236: 229, 237: 229, 302: 229} {
		ends(t, b[:n], at, api.ErrShort)
	}
}

// P16.3: counts of at most 64 and 2^20, of at least 8 bytes each.
func TestTakeCounts(t *testing.T) {
	next := numForm(1)
	for _, c := range []struct {
		count uint64
		left  int
		e     api.Errno
	}{
		{64, 512, api.ErrShort}, {64, 511, api.ErrShort}, {64, 504, api.ErrShort}, {65, 1000, api.ErrLarge}, {65, 0, api.ErrLarge},
		{66, 1000, api.ErrLarge}, {1, 0, api.ErrShort}, {1, 7, api.ErrShort}, {2, 15, api.ErrShort},
		{1 << 20, 0, api.ErrLarge}, {top, 0, api.ErrLarge}, {top + 1, 0, api.ErrLarge}, {math.MaxUint64, 80, api.ErrLarge},
	} {
		at := 8
		if c.count == 64 && c.left == 512 {
			at = 16 + 512 // all of them are there, and empty; how many sagas there are isn't
		}
		ends(t, joined(next, eight(c.count), make([]byte, c.left)), at, c.e)
	}
	ends(t, joined(next, eight(64), make([]byte, 512), eight(0)), 0, api.ErrKind)
	ends(t, joined(next, eight(65), make([]byte, 520), eight(0)), 8, api.ErrLarge)
	for _, c := range []struct {
		count uint64
		left  int
		at    int
		e     api.Errno
	}{
		{1, 7, 16, api.ErrShort}, {2, 15, 16, api.ErrShort}, {2, 16, 0, api.ErrKind}, {2, 17, 40, api.ErrForm}, {65, 520, 0, api.ErrKind},
		{mostSagas, 0, 16, api.ErrShort}, {mostSagas, 8*mostSagas - 1, 16, api.ErrShort}, {mostSagas, 8 * mostSagas, 0, api.ErrKind},
		{mostSagas + 1, 0, 16, api.ErrLarge}, {mostSagas + 1, 8*mostSagas + 8, 16, api.ErrLarge},
		{top, 0, 16, api.ErrLarge}, {top + 1, 0, 16, api.ErrLarge}, {math.MaxUint64, 800, 16, api.ErrLarge},
	} {
		ends(t, joined(next, eight(0), eight(c.count), make([]byte, c.left)), c.at, c.e)
	}
}

// P16.3: as many as 2^20 sagas are taken; of one more the form isn't.
func TestTakeMostSagas(t *testing.T) {
	x := api.State{Defs: []api.Def{tiny()}, Next: mostSagas + 1, Sagas: make([]api.Saga, mostSagas, mostSagas+1)}
	for i := range x.Sagas {
		x.Sagas[i] = api.Saga{ID: i, Def: "a", At: i}
	}
	if y, at, e := Take(Put(x)); at != 0 || e != api.OK || !Same(x, y) {
		t.Errorf("%d sagas: %d, %d", len(x.Sagas), at, e)
	}
	x.Sagas = append(x.Sagas, api.Saga{ID: mostSagas, Def: "a"})
	if y, at, e := Take(Put(x)); at != 147 || e != api.ErrLarge || !isSame(y, api.State{}) || !Good(x) {
		t.Errorf("%d sagas: %d, %d", len(x.Sagas), at, e)
	}
}

// P16.3: a text has at most 65,536 bytes, and all of them are there.
func TestTakeTexts(t *testing.T) {
	long, longer := textForm(make([]byte, mostText)), textForm(make([]byte, mostText+1))
	one, none := numForm(1), numForm(0)
	ends(t, joined(none, one, long, none), 0, api.ErrKind)
	ends(t, joined(none, one, longer, none), 16, api.ErrLarge)
	ends(t, joined(none, none, one, long), 0, api.ErrKind)
	ends(t, joined(none, none, one, longer), 24, api.ErrLarge)
	ends(t, joined(none, one, longer), 16, api.ErrLarge)
	ends(t, joined(none, one, long[:mostText+7]), 16, api.ErrShort)
	ends(t, joined(none, one, long), 16+8+mostText, api.ErrShort)
	for _, c := range []struct {
		size uint64
		e    api.Errno
	}{{9, api.ErrShort}, {mostText, api.ErrShort}, {mostText + 1, api.ErrLarge}, {top, api.ErrLarge}, {top + 1, api.ErrLarge}, {math.MaxUint64, api.ErrLarge}} {
		ends(t, joined(none, one, eight(c.size), none), 16, c.e)
		ends(t, joined(none, none, one, eight(c.size), none), 24, c.e)
		ends(t, joined(none, numForm(2), none, eight(c.size)), 24, c.e)
	}
}

// P16.3: where two fields fail, the first one is told; a field that fails comes ahead of a form that is none.
func TestTakeTwoFaults(t *testing.T) {
	one, none, large := numForm(1), numForm(0), eight(top+1)
	def, first := hand(t, tinyForm), hand(t, firstForm)
	ends(t, large, 0, api.ErrLarge)
	ends(t, joined(large, large), 0, api.ErrLarge)
	ends(t, joined(large, one), 0, api.ErrLarge)
	ends(t, joined(none, numForm(65), large), 8, api.ErrLarge)
	ends(t, joined(none, numForm(2), none), 8, api.ErrShort)
	ends(t, joined(none, numForm(2), large, large), 16, api.ErrLarge)
	ends(t, joined(none, one, def, large), 16+len(def), api.ErrLarge)
	ends(t, joined(none, one, def, one, numForm(mostText+1), large), 24+len(def), api.ErrLarge)
	ends(t, joined(none, one, textForm([]byte("no form")), large), 31, api.ErrLarge)
	ends(t, joined(none, one, textForm([]byte("no form")), one), 31, api.ErrShort)
	ends(t, joined(none, one, textForm([]byte("no form")), none, none), 39, api.ErrForm)
	ends(t, joined(none, one, def, one, first, none), 24+len(def)+len(first), api.ErrForm)
	ends(t, joined(none, one, def, one, textForm(nil), []byte{0}), 32+len(def), api.ErrForm)
}

// P16.3: a form within that is none is ErrKind, at 0, at each place of the row.
func TestTakeFormWithin(t *testing.T) {
	var defs, sagas [][]byte
	x := many()
	for _, d := range x.Defs {
		defs = append(defs, code.PutDef(d))
	}
	for _, s := range x.Sagas {
		sagas = append(sagas, code.PutSaga(s))
	}
	form := func() []byte {
		b := append(numForm(x.Next), numForm(len(defs))...)
		for _, f := range defs {
			b = append(b, textForm(f)...)
		}
		b = append(b, numForm(len(sagas))...)
		for _, f := range sagas {
			b = append(b, textForm(f)...)
		}
		return b
	}
	ends(t, form(), 0, api.OK)
	for _, l := range [][][]byte{defs, sagas} {
		for i, was := range l {
			for n := range was {
				l[i] = was[:n]
				ends(t, form(), 0, api.ErrKind)
			}
			for _, more := range [][]byte{{0}, {1}, was} {
				l[i] = joined(was, more)
				ends(t, form(), 0, api.ErrKind)
			}
			l[i] = was
		}
	}
	for i, was := range defs {
		d := x.Defs[i]
		d.Deadline = end + 1
		defs[i] = code.PutDef(d)
		ends(t, form(), 0, api.ErrKind)
		defs[i] = sagas[0]
		ends(t, form(), 0, api.ErrKind)
		defs[i] = was
	}
	for i, was := range sagas {
		sagas[i] = defs[0]
		ends(t, form(), 0, api.ErrKind)
		sagas[i] = was
	}
	ends(t, form(), 0, api.OK)
}

// P16.3: right forms with a byte turned: what is taken has just that form.
func TestTakeTurned(t *testing.T) {
	for _, x := range []api.State{{Next: 5}, {Defs: []api.Def{tiny()}, Sagas: tinySagas(), Next: 4}, many()} {
		b := put(t, x)
		good, bad := 0, 0
		for at, was := range b {
			for _, turn := range []byte{1, 2, 3, 4, 8, 16, 32, 64, 128, 0x55, 0xff} {
				b[at] = was ^ turn
				if _, _, e := taken(t, b); e == api.OK {
					good++
				} else {
					bad++
				}
			}
			b[at] = was
		}
		if good == 0 || bad == 0 {
			t.Errorf("%s: %d, %d", tell(x), good, bad)
		}
	}
}

// P16.3: bytes that are drawn.
func TestTakeDrawn(t *testing.T) {
	m := mixer(163)
	for range 20000 {
		var b []byte
		for range m.below(6) {
			switch m.below(6) {
			case 0:
				b = append(b, byte(m.below(256)))
			case 1:
				b = append(b, eight(uint64(m.below(1<<31))<<m.below(40))...)
			case 2:
				b = append(b, textForm(code.PutDef(pick(&m, tiny(), order("b", "p"), api.Def{})))...)
			case 3:
				b = append(b, textForm(code.PutSaga(pick(&m, tinySagas()...)))...)
			default:
				b = append(b, numForm(m.below(4))...)
			}
		}
		taken(t, b)
	}
}

// draws draws an event near to what a state has.
func draws(m *mixer, x api.State, now int) api.Event {
	v := api.Event{Kind: m.below(kinds), Now: now}
	if m.flag() { // most of them are to go on with a saga
		v.Kind = pick(m, api.EvStart, api.EvEmit, api.EvEmit, api.EvReply, api.EvReply, api.EvLate)
	}
	v.Saga = m.below(x.Next + 1)
	if len(x.Sagas) > 0 && m.below(8) > 0 {
		v.Saga = pick(m, x.Sagas...).ID
	}
	switch v.Kind {
	case api.EvDefine:
		v.Saga = 0
		v.Def = order(pick(m, "a", "b", "c", "ab", "z", "B"), []string{"p", "q", "r"}[:1+m.below(3)]...)
		v.Def.Deadline = pick(m, 0, 0, 20, 60)
		for i := range v.Def.Steps {
			v.Def.Steps[i].Undo = plan(m.below(2))
		}
	case api.EvStart:
		v.Name = pick(m, "a", "b", "c", "ab", "z", "B")
		if m.below(5) > 0 {
			v.Saga = x.Next
		}
	case api.EvReply:
		v.Reply = api.Reply{Saga: v.Saga, Step: m.below(3), Undo: m.flag(), Try: m.below(4), Good: m.below(3) > 0}
		if s, ok := Find(x, v.Saga); ok && m.below(6) > 0 {
			// Most undoings are to fail, so that sagas are parked.
			v.Reply = api.Reply{Saga: s.ID, Step: s.Step, Undo: s.Phase == api.Undoing, Try: s.Tries, Good: v.Reply.Good == (s.Phase != api.Undoing)}
		}
	}
	if m.below(40) == 0 {
		spoil(m, &v)
	}
	return v
}

// spoil makes an event one that isn't right, most times.
func spoil(m *mixer, v *api.Event) {
	switch m.below(6) {
	case 0:
		v.Kind = pick(m, -1, 11, highest, lowest, m.below(kinds))
	case 1:
		v.Now = pick(m, -1, end+1, lowest, end)
	case 2:
		v.Saga = pick(m, -1, lowest, 7)
	case 3:
		v.Name += pick(m, " ", "x", "\xff")
	case 4:
		v.Reply.Try = pick(m, -1, 1)
	case 5:
		v.Def.Deadline = pick(m, -1, 1)
	}
}

// P16.4: rows of events from the state of nothing on: what is right stays right, is taken from its form as it was, and behind an error nothing is changed.
func TestRows(t *testing.T) {
	met := map[[2]int]int{}
	phases := map[int]int{}
	for seed := range 90 {
		m := mixer(seed)
		limit := pick(&m, 1, 2, 3, 5, 12, 100, highest)
		x, now := api.State{}, 0
		if seed%3 == 0 {
			x.Next = lastStart - 3
		}
		for i := range 500 {
			now += m.below(5)
			v := draws(&m, x, now)
			y, _, e := hold(t, x, v, limit)
			met[[2]int{v.Kind, int(e)}]++
			if e != api.OK {
				continue
			}
			if x = y; i%7 == 0 {
				if again, at, e := taken(t, put(t, x)); at != 0 || e != api.OK || !Same(x, again) {
					t.Fatalf("%s: %s, %d, %d", tell(x), tell(again), at, e)
				}
			}
			if len(x.Sagas) > limit {
				t.Fatalf("%d sagas, of %d", len(x.Sagas), limit)
			}
			for _, s := range x.Sagas {
				phases[s.Phase]++
			}
			if n := Flying(x, "q"); n != flying(x, "q") {
				t.Fatalf("%s: %d fly", tell(x), n)
			}
		}
	}
	for kind := range kinds {
		if met[[2]int{kind, int(api.OK)}] < 10 || met[[2]int{kind, int(api.ErrForm)}] == 0 {
			t.Errorf("kind %d: %v", kind, met)
		}
	}
	if len(phases) != 6 {
		t.Errorf("%v", phases)
	}
}

// P16.4: a row of which all is known: two steps well done, and one that is turned back.
func TestRowByHand(t *testing.T) {
	x := api.State{}
	for i, v := range []api.Event{
		{Kind: api.EvDefine, Def: order("trip", "hotel", "bank")},
		{Kind: api.EvStart, Now: 1, Name: "trip"},
		{Kind: api.EvStart, Now: 2, Saga: 1, Name: "trip"},
		{Kind: api.EvEmit, Now: 2},
		{Kind: api.EvEmit, Now: 3, Saga: 1},
		{Kind: api.EvReply, Now: 4, Reply: api.Reply{Try: 1, Good: true}},
		{Kind: api.EvReply, Now: 4, Saga: 1, Reply: api.Reply{Saga: 1, Try: 1, Good: true}},
		{Kind: api.EvEmit, Now: 5},
		{Kind: api.EvEmit, Now: 5, Saga: 1},
		{Kind: api.EvReply, Now: 6, Reply: api.Reply{Step: 1, Try: 1, Good: true}},
		{Kind: api.EvLate, Now: 10, Saga: 1},
		{Kind: api.EvEmit, Now: 12, Saga: 1},
		{Kind: api.EvReply, Now: 13, Saga: 1, Reply: api.Reply{Saga: 1, Step: 1, Try: 2}},
		{Kind: api.EvEmit, Now: 13, Saga: 1},
		{Kind: api.EvReply, Now: 14, Saga: 1, Reply: api.Reply{Saga: 1, Undo: true, Try: 1, Good: true}},
	} {
		y, c := gives(t, x, v, 2, api.OK)
		if (c.Key != "") != (v.Kind == api.EvEmit) {
			t.Errorf("%d: %s", i, tell(c))
		}
		x = y
	}
	want := []api.Saga{
		{ID: 0, Def: "trip", Start: 1, Phase: api.Completed, Step: 1, Tries: 1, At: 10},
		{ID: 1, Def: "trip", Start: 2, Phase: api.Compensated, Tries: 1, At: 18},
	}
	if !slices.Equal(x.Sagas, want) || x.Next != 2 || len(x.Defs) != 1 {
		t.Errorf("%s", tell(x))
	}
	for id := range 2 {
		x, _ = gives(t, x, api.Event{Kind: api.EvForget, Now: 15, Saga: id}, 2, api.OK)
	}
	if len(x.Sagas) != 0 || x.Next != 2 {
		t.Errorf("%s", tell(x))
	}
}

// P16.4: a right state whose numbers are at most 2^62 is taken as it was; of greater ones the form is that of 2^62.
func TestGreatNumbers(t *testing.T) {
	x := api.State{Defs: []api.Def{tiny()}, Next: top}
	x.Sagas = []api.Saga{{ID: top - 2, Def: "a", Phase: api.Completed, Tries: top}, {ID: top - 1, Def: "a", Start: end, At: end}}
	if y, at, e := taken(t, put(t, x)); at != 0 || e != api.OK || !Same(x, y) {
		t.Errorf("%s, %d, %d", tell(y), at, e)
	}
	x.Sagas[0].Tries, x.Next = top+1, highest
	want := copied(x)
	want.Sagas[0].Tries, want.Next = top, top
	if y, at, e := taken(t, put(t, x)); at != 0 || e != api.OK || !Same(want, y) || !Good(x) {
		t.Errorf("%s, %d, %d", tell(y), at, e)
	}
}

// scribble writes over a state, grows its lists, and writes behind them.
func scribble(x api.State) {
	for i := range x.Defs {
		for j := range x.Defs[i].Steps {
			x.Defs[i].Steps[j] = api.Step{Name: "over", Timeout: -9}
		}
		more := append(x.Defs[i].Steps, api.Step{Name: "behind"})
		more = more[:cap(more)]
		for j := len(x.Defs[i].Steps); j < len(more); j++ {
			more[j] = api.Step{Name: "behind"}
		}
	}
	for i := range x.Defs {
		x.Defs[i] = api.Def{Name: "over"}
	}
	for i := range x.Sagas {
		x.Sagas[i] = api.Saga{ID: -9, Def: "over"}
	}
	for i, l := len(x.Defs), x.Defs[:cap(x.Defs)]; i < len(l); i++ {
		l[i] = api.Def{Name: "behind"}
	}
	for i, l := len(x.Sagas), x.Sagas[:cap(x.Sagas)]; i < len(l); i++ {
		l[i] = api.Saga{ID: -9}
	}
}

// P16.4: what is answered is new: it may be written over, and neither what was handed in nor another answer changes; each of its lists may be grown on its own.
func TestAnswersAreNew(t *testing.T) {
	for _, x := range append(wrongStates()[:20], many(), row(), api.State{}) {
		for _, v := range append(rightEvents(), wrongEvents()[:12]...) {
			was, wasV := copied(x), copiedEvent(v)
			first, _, _ := Do(x, v, 100)
			other, _, _ := Do(x, v, 100)
			grown, _, _ := Do(x, v, 100)
			keep := copied(other)
			scribble(first)
			for i := range grown.Defs {
				grown.Defs[i].Steps = append(grown.Defs[i].Steps, api.Step{Name: "more"})
			}
			for i, d := range keep.Defs {
				if d.Steps = append(slices.Clone(d.Steps), api.Step{Name: "more"}); !isSameDef(d, grown.Defs[i]) {
					t.Fatalf("%s: %s, not %s", tell(v), tell(grown.Defs[i]), tell(d))
				}
			}
			if !isSame(x, was) || !isSame(other, keep) || !reflect.DeepEqual(copiedEvent(v), wasV) {
				t.Fatalf("%s, %s: %s", tell(was), tell(v), tell(other))
			}
		}
	}
}

// P16.4: what lies behind a list's length is neither read nor written.
func TestMemoryBehind(t *testing.T) {
	behind := func() (x, all api.State) {
		all = many()
		all.Defs = append(all.Defs, order("zz", "p"), order("zzz", "p"))
		all.Sagas = append(all.Sagas, api.Saga{ID: 20, Def: "b", Phase: api.Completed}, api.Saga{ID: 21, Def: "a"})
		for i, d := range all.Defs {
			all.Defs[i].Steps = append(d.Steps, api.Step{Name: "behind"}, api.Step{Name: "more"})
		}
		x = api.State{Defs: all.Defs[:3], Sagas: all.Sagas[:5], Next: 20}
		for i, d := range x.Defs {
			x.Defs[i].Steps = d.Steps[:len(d.Steps)-2]
		}
		return x, all
	}
	for _, v := range rightEvents() {
		x, all := behind()
		rest := copied(api.State{Defs: all.Defs[3:], Sagas: all.Sagas[5:]})
		if v.Kind == api.EvDefine {
			v.Def.Steps = append(v.Def.Steps, api.Step{Name: "behind"})[:len(v.Def.Steps)]
		}
		hold(t, x, v, 100)
		Good(x)
		Find(x, 20)
		Def(x, "zz")
		Flying(x, "p")
		if y, _, e := Take(Put(x)); e != api.OK || !Same(x, y) || !isSame(x, many()) {
			t.Fatalf("%s: %s, %d", tell(v), tell(y), e)
		}
		if !isSame(rest, api.State{Defs: all.Defs[3:], Sagas: all.Sagas[5:]}) {
			t.Fatalf("%s: %s", tell(v), tell(all))
		}
		for i := range x.Defs {
			if steps := x.Defs[i].Steps; steps[:len(steps)+2][len(steps)].Name != "behind" || steps[:len(steps)+2][len(steps)+1].Name != "more" {
				t.Fatalf("%s: %s", tell(v), tell(steps[:len(steps)+2]))
			}
		}
		if v.Kind == api.EvDefine && v.Def.Steps[:2][1].Name != "behind" {
			t.Fatalf("%s: %s", tell(v), tell(v.Def.Steps[:2]))
		}
	}
}

// P16.4: a definition that is told, a form and what is taken from one are in memory of their own.
func TestFormsAreNew(t *testing.T) {
	x := many()
	d, _ := Def(x, "ab")
	for i := range d.Steps {
		d.Steps[i] = api.Step{Name: "over"}
	}
	b := Put(x)
	keep := Put(x)
	for i := range b {
		b[i] = 0xee
	}
	if !isSame(x, many()) || !bytes.Equal(keep, formOf(many())) {
		t.Errorf("%s", tell(x))
	}
	b = bytes.Clone(keep)
	first, _, _ := Take(b)
	other, _, _ := Take(b)
	for i := range b {
		b[i] = 0xee
	}
	if !isSame(first, many()) || !isSame(other, many()) {
		t.Errorf("%s", tell(first))
	}
	scribble(first)
	if !isSame(other, many()) {
		t.Errorf("%s", tell(other))
	}
	long := append(bytes.Clone(keep), 1, 2, 3)
	if y, at, e := Take(long[:len(keep)]); at != 0 || e != api.OK || !isSame(y, many()) {
		t.Errorf("bytes behind the length: %d, %d", at, e)
	}
}

// anyNumber draws a number of any size, an edge most times.
func anyNumber(m *mixer) int {
	n := pick(m, lowest, -1, 0, 0, 1, 1, 2, 3, 4, 5, 32, 33, 64, end, end+1, lastStart, top, highest)
	if m.below(4) == 0 {
		n = m.below(1<<31) << m.below(34)
	}
	return n
}

func anyText(m *mixer) string {
	return pick(m, "", "a", "b", "a", "b", "ab", "p", "no name", "\xff", "a/b", strings.Repeat("ä", 65))
}

func anySteps(m *mixer) []api.Step {
	var l []api.Step
	for range pick(m, 0, 1, 1, 2, 3, 33) {
		s := api.Step{Name: anyText(m) + strconv.Itoa(len(l)), Party: anyText(m), Timeout: 5, Try: plan(m.below(3)), Undo: plan(m.below(3)), Prio: m.below(9)}
		if m.below(4) == 0 {
			s.Timeout, s.Prio, s.Try.Retries, s.Undo.Cap = anyNumber(m), anyNumber(m), anyNumber(m), anyNumber(m)
		}
		l = append(l, s)
	}
	return l
}

func anyState(m *mixer) api.State {
	x := api.State{Next: anyNumber(m)}
	for range pick(m, 0, 1, 2, 3, 66) {
		x.Defs = append(x.Defs, api.Def{Name: anyText(m), Deadline: anyNumber(m), Steps: anySteps(m)})
	}
	for range pick(m, 0, 1, 2, 3, 9) {
		s := api.Saga{ID: len(x.Sagas), Def: anyText(m), Tries: m.below(3), Out: m.flag(), Phase: m.below(6), Step: m.below(2)}
		if m.flag() {
			s.ID, s.Start, s.At, s.Skips = anyNumber(m), anyNumber(m), anyNumber(m), anyNumber(m)
		}
		if m.below(4) == 0 {
			s.Phase, s.Step, s.Tries = anyNumber(m), anyNumber(m), anyNumber(m)
		}
		x.Sagas = append(x.Sagas, s)
	}
	return x
}

func anyEvent(m *mixer) api.Event {
	v := api.Event{Kind: m.below(kinds), Now: m.below(99), Saga: m.below(3)}
	if m.below(3) == 0 {
		v = api.Event{Kind: anyNumber(m), Now: anyNumber(m), Saga: anyNumber(m), Name: anyText(m)}
	}
	if v.Kind == api.EvDefine || m.below(9) == 0 {
		v.Def = api.Def{Name: anyText(m), Deadline: anyNumber(m), Steps: anySteps(m)}
	}
	if v.Kind == api.EvReply || m.below(9) == 0 {
		v.Reply = api.Reply{Saga: anyNumber(m), Step: anyNumber(m), Undo: m.flag(), Try: anyNumber(m), Good: m.flag()}
	}
	return v
}

// P1: whatever is handed in, each call ends, and answers what the chapter says.
func TestAnyArguments(t *testing.T) {
	m := mixer(16)
	rights := 0
	for range 7000 {
		x, y := anyState(&m), anyState(&m)
		if Good(x) != isRight(x) {
			t.Fatalf("Good(%s) = %t", tell(x), Good(x))
		}
		if isRight(x) {
			rights++
		}
		hold(t, x, anyEvent(&m), anyNumber(&m))
		if Same(x, y) != isSame(x, y) {
			t.Fatalf("Same(%s, %s) = %t", tell(x), tell(y), Same(x, y))
		}
		id, text := anyNumber(&m), anyText(&m)
		at, there := firstSaga(x, id)
		if s, ok := Find(x, id); ok != there || ok && s != x.Sagas[at] {
			t.Fatalf("Find(%s, %d) = %s, %t", tell(x), id, tell(s), ok)
		}
		want, there := firstDef(x, text)
		if d, ok := Def(x, text); ok != there || !isSameDef(d, want) {
			t.Fatalf("Def(%s, %q) = %s, %t", tell(x), text, tell(d), ok)
		}
		if n := Flying(x, text); n != flying(x, text) {
			t.Fatalf("Flying(%s, %q) = %d", tell(x), text, n)
		}
		taken(t, put(t, x))
	}
	if rights < 100 {
		t.Errorf("%d of the states are right", rights)
	}
}

// P16.4: the example of the chapter.
func Example() {
	p := api.Plan{Retries: 1, Base: 2, Factor: 2, Cap: 8}
	a := api.Def{Name: "a", Steps: []api.Step{{Name: "book", Party: "hotel", Timeout: 5, Try: p, Undo: p}}}
	x, _, e := Do(api.State{}, api.Event{Kind: api.EvDefine, Def: a}, 10)
	fmt.Println(len(x.Defs), x.Next, e)
	x, _, e = Do(x, api.Event{Kind: api.EvStart, Name: "a"}, 10)
	fmt.Println(len(x.Sagas), x.Next, e)
	// Output:
	// 1 0 0
	// 1 1 0
}
