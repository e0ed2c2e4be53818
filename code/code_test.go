package code

import (
	"bytes"
	"encoding/binary"
	"encoding/hex"
	"fmt"
	"math"
	"reflect"
	"slices"
	"strconv"
	"strings"
	"testing"

	"usufruct/api"
	"usufruct/def"
	"usufruct/label"
)

const (
	lowest    = math.MinInt
	highest   = math.MaxInt
	top       = 1 << 62 // the greatest number that has a form of its own
	end       = 1 << 40 // the greatest tick
	mostText  = 256
	mostSteps = 32
	leastStep = 96
	kinds     = 11
)

// mixer draws numbers by a rule, the same ones each time.
type mixer uint64

func (m *mixer) below(n int) int {
	*m = *m*6364136223846793005 + 1442695040888963407
	return int(uint64(*m)>>33) % n
}

// upTo draws a number from a to b, of any of many sizes.
func (m *mixer) upTo(a, b int) int {
	switch m.below(6) {
	case 0:
		return a
	case 1:
		return b
	}
	n := (m.below(1<<31)<<31 + m.below(1<<31)) >> m.below(62)
	return a + n%(b-a+1)
}

func (m *mixer) flag() bool {
	return m.below(2) == 1
}

// hand is bytes written out by hand: pairs of hexadecimal digits, with blanks between them.
func hand(t *testing.T, rows ...string) []byte {
	t.Helper()
	b, err := hex.DecodeString(strings.Join(strings.Fields(strings.Join(rows, " ")), ""))
	if err != nil {
		t.Fatal(err)
	}
	return b
}

// tell is anything, cut short where it is long, without bytes that are no rune's.
func tell(x any) string {
	s := strconv.QuoteToASCII(fmt.Sprintf("%+v", x))
	if b, ok := x.([]byte); ok {
		s = fmt.Sprintf("%d bytes %x", len(b), b)
	}
	return s[:min(len(s), 900)]
}

// What a field of a form is.
const (
	isNum = iota
	isText
	isFlag
	isCount
	isKindNum // the number of an event's kind
)

// piece is a field of a form.
type piece struct {
	what int
	n    int
	s    string
	yes  bool
}

// eight are a number's eight bytes, the highest first.
func eight(n uint64) []byte {
	return binary.BigEndian.AppendUint64(nil, n)
}

// numForm is a number's form.
func numForm(n int) []byte {
	return eight(uint64(max(0, min(n, top))))
}

func textForm(s string) []byte {
	return append(eight(uint64(len(s))), s...)
}

func (p piece) form() []byte {
	switch {
	case p.what == isText:
		return textForm(p.s)
	case p.what == isFlag && p.yes:
		return []byte{1}
	case p.what == isFlag:
		return []byte{0}
	}
	return numForm(p.n)
}

func num(n int) piece {
	return piece{what: isNum, n: n}
}

func text(s string) piece {
	return piece{what: isText, s: s}
}

func flag(yes bool) piece {
	return piece{what: isFlag, yes: yes}
}

// joined is the form that those fields make.
func joined(l []piece) []byte {
	var b []byte
	for _, p := range l {
		b = append(b, p.form()...)
	}
	return b
}

// places are where each field begins, and where all of them end.
func places(l []piece) []int {
	at := []int{0}
	for i, p := range l {
		at = append(at, at[i]+len(p.form()))
	}
	return at
}

// planPieces, defPieces, sagaPieces and eventPieces are the fields by the chapter's words.
func planPieces(p api.Plan) []piece {
	return []piece{num(p.Retries), num(p.Base), num(p.Factor), num(p.Cap)}
}

func defPieces(d api.Def) []piece {
	l := []piece{text(d.Name), num(d.Deadline), {what: isCount, n: len(d.Steps)}}
	for _, s := range d.Steps {
		l = append(l, text(s.Name), text(s.Party), num(s.Timeout))
		l = append(l, planPieces(s.Try)...)
		l = append(l, planPieces(s.Undo)...)
		l = append(l, num(s.Prio))
	}
	return l
}

func sagaPieces(s api.Saga) []piece {
	return []piece{num(s.ID), text(s.Def), num(s.Start), num(s.Phase), num(s.Step), num(s.Tries), flag(s.Out), num(s.At), num(s.Skips)}
}

func eventPieces(v api.Event) []piece {
	l := []piece{{what: isKindNum, n: v.Kind}, num(v.Now), num(v.Saga)}
	switch v.Kind {
	case api.EvDefine:
		l = append(l, defPieces(v.Def)...)
	case api.EvStart:
		l = append(l, text(v.Name))
	case api.EvReply:
		l = append(l, num(v.Reply.Saga), num(v.Reply.Step), flag(v.Reply.Undo), num(v.Reply.Try), flag(v.Reply.Good))
	}
	return l
}

// isRightDef tells whether a definition is right, by layer 13.
func isRightDef(d api.Def) bool {
	_, e := def.Check(d)
	return e == api.OK
}

// isEmpty tells whether a definition is the zero value.
func isEmpty(d api.Def) bool {
	return d.Name == "" && d.Deadline == 0 && len(d.Steps) == 0
}

// isRight tells whether an event is right, by the chapter's words.
func isRight(v api.Event) bool {
	if v.Kind < 0 || v.Kind > 10 || v.Now < 0 || v.Now > end || v.Saga < 0 {
		return false
	}
	noName, noReply, noDef := v.Name == "", v.Reply == api.Reply{}, isEmpty(v.Def)
	switch v.Kind {
	case api.EvDefine:
		return v.Saga == 0 && noName && noReply && isRightDef(v.Def)
	case api.EvStart:
		return label.Good(v.Name) && noReply && noDef
	case api.EvReply:
		return min(v.Reply.Saga, v.Reply.Step, v.Reply.Try) >= 0 && noName && noDef
	}
	return noName && noReply && noDef
}

// source takes fields by layer 4's words.
type source struct {
	b     []byte
	at    int
	place int
	e     api.Errno
}

// fails takes nothing any more.
func (s *source) fails(e api.Errno) bool {
	if s.e == api.OK && e != api.OK {
		s.place, s.e = s.at, e
	}
	return s.e != api.OK
}

// head is the number that is next, and its error.
func (s *source) head() (int, api.Errno) {
	left := s.b[s.at:]
	if len(left) < 8 {
		return 0, api.ErrShort
	}
	n := binary.BigEndian.Uint64(left)
	if n > top {
		return 0, api.ErrLarge
	}
	return int(n), api.OK
}

func (s *source) num() int {
	n, e := s.head()
	if s.fails(e) {
		return 0
	}
	s.at += 8
	return n
}

func (s *source) text() string {
	n, e := s.head()
	if e == api.OK && n > mostText {
		e = api.ErrLarge
	} else if e == api.OK && s.at+8+n > len(s.b) {
		e = api.ErrShort
	}
	if s.fails(e) {
		return ""
	}
	s.at += 8 + n
	return string(s.b[s.at-n : s.at])
}

func (s *source) flag() bool {
	e := api.OK
	if s.at == len(s.b) {
		e = api.ErrShort
	} else if s.b[s.at] > 1 {
		e = api.ErrForm
	}
	if s.fails(e) {
		return false
	}
	s.at++
	return s.b[s.at-1] == 1
}

func (s *source) count() int {
	n, e := s.head()
	if e == api.OK && n > mostSteps {
		e = api.ErrLarge
	} else if e == api.OK && s.at+8+n*leastStep > len(s.b) {
		e = api.ErrShort
	}
	if s.fails(e) {
		return 0
	}
	s.at += 8
	return n
}

// ends tells how it ended.
func (s *source) ends() (int, api.Errno) {
	if s.at < len(s.b) {
		s.fails(api.ErrForm)
	}
	return s.place, s.e
}

func (s *source) plan() (p api.Plan) {
	for _, to := range []*int{&p.Retries, &p.Base, &p.Factor, &p.Cap} {
		*to = s.num()
	}
	return p
}

func (s *source) def() (d api.Def) {
	d.Name = s.text()
	d.Deadline = s.num()
	d.Steps = make([]api.Step, s.count())
	for i := range d.Steps {
		step := &d.Steps[i]
		step.Name = s.text()
		step.Party = s.text()
		step.Timeout = s.num()
		step.Try = s.plan()
		step.Undo = s.plan()
		step.Prio = s.num()
	}
	return d
}

// wantDef, wantSaga and wantEvent are what the chapter has bytes taken for.
func wantDef(b []byte) (api.Def, int, api.Errno) {
	s := &source{b: b}
	d := s.def()
	if at, e := s.ends(); e != api.OK {
		return api.Def{}, at, e
	}
	if !isRightDef(d) {
		return api.Def{}, 0, api.ErrKind
	}
	return d, 0, api.OK
}

func wantSaga(b []byte) (api.Saga, int, api.Errno) {
	s := &source{b: b}
	var g api.Saga
	g.ID = s.num()
	g.Def = s.text()
	for _, to := range []*int{&g.Start, &g.Phase, &g.Step, &g.Tries} {
		*to = s.num()
	}
	g.Out = s.flag()
	g.At = s.num()
	g.Skips = s.num()
	if at, e := s.ends(); e != api.OK {
		return api.Saga{}, at, e
	}
	return g, 0, api.OK
}

func wantEvent(b []byte) (api.Event, int, api.Errno) {
	s := &source{b: b}
	var v api.Event
	v.Kind = s.num()
	if s.e == api.OK && v.Kind > 10 {
		return api.Event{}, 0, api.ErrKind
	}
	v.Now = s.num()
	v.Saga = s.num()
	switch v.Kind {
	case api.EvDefine:
		v.Def = s.def()
	case api.EvStart:
		v.Name = s.text()
	case api.EvReply:
		v.Reply.Saga = s.num()
		v.Reply.Step = s.num()
		v.Reply.Undo = s.flag()
		v.Reply.Try = s.num()
		v.Reply.Good = s.flag()
	}
	if at, e := s.ends(); e != api.OK {
		return api.Event{}, at, e
	}
	if !isRight(v) {
		return api.Event{}, 0, api.ErrKind
	}
	return v, 0, api.OK
}

// sameEvent tells whether two events are the same.
func sameEvent(a, b api.Event) bool {
	return a.Kind == b.Kind && a.Now == b.Now && a.Saga == b.Saga && a.Name == b.Name && a.Reply == b.Reply && def.Same(a.Def, b.Def)
}

// result is a call's answer beside what it took.
type result struct {
	at int
	e  api.Errno
}

// takeDef, takeSaga and takeEvent hold a call against the chapter: what it takes, its error and place, its form put again, and the bytes that stay.
func takeDef(t *testing.T, b []byte) result {
	t.Helper()
	was := bytes.Clone(b)
	d, at, e := TakeDef(b)
	want, wantAt, wantE := wantDef(was)
	if !def.Same(d, want) || at != wantAt || e != wantE || !bytes.Equal(b, was) {
		t.Fatalf("TakeDef(%s) = %s, %d, %d, not %s, %d, %d", tell(was), tell(d), at, e, tell(want), wantAt, wantE)
	}
	if e == api.OK && !bytes.Equal(PutDef(d), was) {
		t.Fatalf("%s was taken, and put again it is %s", tell(was), tell(PutDef(d)))
	}
	return result{at, e}
}

func takeSaga(t *testing.T, b []byte) result {
	t.Helper()
	was := bytes.Clone(b)
	s, at, e := TakeSaga(b)
	want, wantAt, wantE := wantSaga(was)
	if s != want || at != wantAt || e != wantE || !bytes.Equal(b, was) {
		t.Fatalf("TakeSaga(%s) = %s, %d, %d, not %s, %d, %d", tell(was), tell(s), at, e, tell(want), wantAt, wantE)
	}
	if e == api.OK && !bytes.Equal(PutSaga(s), was) {
		t.Fatalf("%s was taken, and put again it is %s", tell(was), tell(PutSaga(s)))
	}
	return result{at, e}
}

func takeEvent(t *testing.T, b []byte) result {
	t.Helper()
	was := bytes.Clone(b)
	v, at, e := TakeEvent(b)
	want, wantAt, wantE := wantEvent(was)
	if !sameEvent(v, want) || at != wantAt || e != wantE || !bytes.Equal(b, was) {
		t.Fatalf("TakeEvent(%s) = %s, %d, %d, not %s, %d, %d", tell(was), tell(v), at, e, tell(want), wantAt, wantE)
	}
	if e != api.OK {
		return result{at, e}
	}
	if again, e := PutEvent(v); e != api.OK || !Good(v) || !bytes.Equal(again, was) {
		t.Fatalf("%s was taken, and put again it is %s, %d", tell(was), tell(again), e)
	}
	return result{at, e}
}

// taker is a taking call, held against the chapter.
type taker func(t *testing.T, b []byte) result

var takers = map[string]taker{"def": takeDef, "saga": takeSaga, "event": takeEvent}

// wants holds a taking call against an answer that is written out, too.
func (take taker) wants(t *testing.T, b []byte, at int, e api.Errno) {
	t.Helper()
	if got := take(t, b); got != (result{at, e}) {
		t.Fatalf("%s: %d, %d, not %d, %d", tell(b), got.at, got.e, at, e)
	}
}

// right is a right definition of so many steps.
func right(n int) api.Def {
	d := api.Def{Name: "order", Deadline: 50}
	for i := range n {
		d.Steps = append(d.Steps, api.Step{
			Name:    "s" + strconv.Itoa(i),
			Party:   "p" + strconv.Itoa(i%3),
			Timeout: 5 + i,
			Try:     api.Plan{Retries: i, Base: 1 + i, Factor: 2, Cap: 50},
			Undo:    api.Plan{Retries: 9, Base: 3, Factor: 1, Cap: 3 + i},
			Prio:    i,
		})
	}
	return d
}

// long is a right definition of so many steps whose texts have as many bytes as may be.
func long(n int) api.Def {
	d := right(n)
	d.Name = strings.Repeat("\U0010ffff", 64)
	for i := range d.Steps {
		d.Steps[i].Name = strings.Repeat("\U0010ffff", 63) + string(rune(0x10000+i))
		d.Steps[i].Party = strings.Repeat("\U0001f600", 64)
	}
	return d
}

// highestDef is a right definition of so many steps whose numbers are as great as may be.
func highestDef(n int) api.Def {
	d := right(n)
	d.Deadline = end
	p := api.Plan{Retries: 1000, Base: end, Factor: 16, Cap: end}
	for i := range d.Steps {
		d.Steps[i].Timeout, d.Steps[i].Try, d.Steps[i].Undo, d.Steps[i].Prio = end, p, p, 255
	}
	return d
}

// rightDefs are right definitions at their edges.
func rightDefs() []api.Def {
	l := []api.Def{{Name: "a", Steps: []api.Step{{Name: "a", Party: "a", Timeout: 1, Try: api.Plan{Base: 1, Factor: 1, Cap: 1}, Undo: api.Plan{Base: 1, Factor: 1, Cap: 1}}}}}
	for _, n := range []int{1, 2, 3, 31, mostSteps} {
		l = append(l, right(n), long(n), highestDef(n))
	}
	return l
}

// fault is a definition that can be taken, but isn't right.
type fault struct {
	name string
	d    api.Def
}

// faults are definitions with one fault of layer 13, at each place, none of which a form can't have.
func faults() []fault {
	l := []fault{{"no step", api.Def{Name: "a"}}, {"nothing", api.Def{}}}
	for name, do := range map[string]func(d *api.Def){
		"empty name":    func(d *api.Def) { d.Name = "" },
		"no name":       func(d *api.Def) { d.Name = "1" },
		"name of bytes": func(d *api.Def) { d.Name = "a\xff" },
		"name of 65":    func(d *api.Def) { d.Name = strings.Repeat("a", 65) },
		"name of 256":   func(d *api.Def) { d.Name = strings.Repeat("a", 256) },
		"deadline":      func(d *api.Def) { d.Deadline = end + 1 },
		"far deadline":  func(d *api.Def) { d.Deadline = top },
	} {
		for _, n := range []int{1, 3, mostSteps} {
			d := right(n)
			do(&d)
			l = append(l, fault{name, d})
		}
	}
	for name, do := range map[string]func(s *api.Step){
		"step's empty name":  func(s *api.Step) { s.Name = "" },
		"step's name":        func(s *api.Step) { s.Name = "a/b" },
		"step's long name":   func(s *api.Step) { s.Name = strings.Repeat("é", 128) },
		"empty party":        func(s *api.Step) { s.Party = "" },
		"party":              func(s *api.Step) { s.Party = "\x00" },
		"timeout of 0":       func(s *api.Step) { s.Timeout = 0 },
		"far timeout":        func(s *api.Step) { s.Timeout = end + 1 },
		"retries":            func(s *api.Step) { s.Try.Retries = 1001 },
		"base of 0":          func(s *api.Step) { s.Try.Base = 0 },
		"factor of 0":        func(s *api.Step) { s.Try.Factor = 0 },
		"factor":             func(s *api.Step) { s.Try.Factor = 17 },
		"cap below the base": func(s *api.Step) { s.Try.Base, s.Try.Cap = 7, 6 },
		"far cap":            func(s *api.Step) { s.Try.Cap = end + 1 },
		"undoing's retries":  func(s *api.Step) { s.Undo.Retries = 1001 },
		"undoing's base":     func(s *api.Step) { s.Undo.Base = 0 },
		"undoing's factor":   func(s *api.Step) { s.Undo.Factor = 17 },
		"undoing's cap":      func(s *api.Step) { s.Undo.Cap = top },
		"priority":           func(s *api.Step) { s.Prio = 256 },
		"far priority":       func(s *api.Step) { s.Prio = top },
	} {
		for _, n := range []int{1, 3, mostSteps} {
			for _, i := range []int{0, n / 2, n - 1} {
				d := right(n)
				do(&d.Steps[i])
				l = append(l, fault{name, d})
			}
		}
	}
	for _, n := range []int{2, 3, mostSteps} {
		for i := 1; i < n; i++ {
			d := right(n)
			d.Steps[i].Name = d.Steps[0].Name
			l = append(l, fault{"twins", d})
		}
	}
	return l
}

// someTexts are texts that have a form, whether or not they are names.
func someTexts() []string {
	l := []string{"", "a", "order", "1", "/", "\x00", "\xff\xfe", "\x80", "é", "\xc3", "\ufffd", "a b", "\x00\x00\x00\x00\x00\x00\x00\x01"}
	for _, n := range []int{7, 8, 9, 64, 65, 127, 128, 255, mostText} {
		l = append(l, strings.Repeat("x", n), strings.Repeat("\xff", n))
	}
	return l
}

// farTexts are texts that have a form which isn't taken.
func farTexts() []string {
	return []string{strings.Repeat("x", mostText+1), strings.Repeat("\xff", 300), strings.Repeat("é", 1000), strings.Repeat("a", 1<<16)}
}

// someNums are numbers of a form of their own, and such that have that of 0 or of 2^62.
func someNums() []int {
	return []int{lowest, lowest + 1, -top, -end, -256, -1, 0, 1, 2, 10, 11, 32, 33, 255, 256, 1 << 16, 1 << 31, 1 << 32, 0x0102030405060708, end - 1, end, end + 1, top - 1, top, top + 1, highest - 1, highest}
}

// numsOf are all numbers of a value, and textsOf all texts.
func numsOf(x any) []reflect.Value  { return leaves(reflect.ValueOf(x).Elem(), reflect.Int) }
func textsOf(x any) []reflect.Value { return leaves(reflect.ValueOf(x).Elem(), reflect.String) }

func leaves(v reflect.Value, kind reflect.Kind) []reflect.Value {
	var l []reflect.Value
	switch v.Kind() {
	case kind:
		return []reflect.Value{v}
	case reflect.Struct:
		for i := range v.NumField() {
			l = append(l, leaves(v.Field(i), kind)...)
		}
	case reflect.Slice:
		for i := range v.Len() {
			l = append(l, leaves(v.Index(i), kind)...)
		}
	}
	return l
}

// putDef holds PutDef against the chapter.
func putDef(t *testing.T, d api.Def) []byte {
	t.Helper()
	b := PutDef(d)
	if want := joined(defPieces(d)); !bytes.Equal(b, want) {
		t.Fatalf("PutDef(%s) = %s, not %s", tell(d), tell(b), tell(want))
	}
	takeDef(t, b)
	return b
}

// putSaga holds PutSaga against the chapter.
func putSaga(t *testing.T, s api.Saga) []byte {
	t.Helper()
	b := PutSaga(s)
	if want := joined(sagaPieces(s)); !bytes.Equal(b, want) {
		t.Fatalf("PutSaga(%s) = %s, not %s", tell(s), tell(b), tell(want))
	}
	takeSaga(t, b)
	return b
}

// putEvent holds Good and PutEvent against the chapter.
func putEvent(t *testing.T, v api.Event) []byte {
	t.Helper()
	var want []byte
	wantE := api.ErrForm
	if isRight(v) {
		want, wantE = joined(eventPieces(v)), api.OK
	}
	if Good(v) != isRight(v) {
		t.Fatalf("Good(%s) = %t", tell(v), Good(v))
	}
	b, e := PutEvent(v)
	if !bytes.Equal(b, want) || e != wantE {
		t.Fatalf("PutEvent(%s) = %s, %d, not %s, %d", tell(v), tell(b), e, tell(want), wantE)
	}
	takeEvent(t, b)
	return b
}

// wrong holds Good and PutEvent of an event that isn't right.
func wrong(t *testing.T, v api.Event) {
	t.Helper()
	if b, e := PutEvent(v); Good(v) || len(b) != 0 || e != api.ErrForm {
		t.Fatalf("%s: Good %t, PutEvent %s, %d", tell(v), Good(v), tell(b), e)
	}
	putEvent(t, v)
}

// fine holds Good and PutEvent of an event that is right; what is at most 2^62 is taken as it was.
func fine(t *testing.T, v api.Event) {
	t.Helper()
	if !Good(v) {
		t.Fatalf("%s isn't Good", tell(v))
	}
	b := putEvent(t, v)
	if max(v.Saga, v.Reply.Saga, v.Reply.Step, v.Reply.Try) > top {
		return
	}
	if w, at, e := TakeEvent(b); !sameEvent(w, v) || at != 0 || e != api.OK {
		t.Fatalf("%s was put, and %s, %d, %d is taken", tell(v), tell(w), at, e)
	}
}

// The forms of some numbers and texts, written out by hand.
const (
	h0   = "00 00 00 00 00 00 00 00 "
	h1   = "00 00 00 00 00 00 00 01 "
	h2   = "00 00 00 00 00 00 00 02 "
	h3   = "00 00 00 00 00 00 00 03 "
	h4   = "00 00 00 00 00 00 00 04 "
	h5   = "00 00 00 00 00 00 00 05 "
	h6   = "00 00 00 00 00 00 00 06 "
	h7   = "00 00 00 00 00 00 00 07 "
	h8   = "00 00 00 00 00 00 00 08 "
	h9   = "00 00 00 00 00 00 00 09 "
	h10  = "00 00 00 00 00 00 00 0a "
	h11  = "00 00 00 00 00 00 00 0b "
	h12  = "00 00 00 00 00 00 00 0c "
	h32  = "00 00 00 00 00 00 00 20 "
	h33  = "00 00 00 00 00 00 00 21 "
	h300 = "00 00 00 00 00 00 01 2c "
	h40  = "00 00 01 00 00 00 00 00 " // 2^40
	hTop = "40 00 00 00 00 00 00 00 "

	hA     = h1 + "61 "
	hOrder = h5 + "6f 72 64 65 72 "
	hHotel = h5 + "68 6f 74 65 6c "
)

// two is a definition of two steps whose numbers all differ, and hTwo its form.
var two = api.Def{Name: "order", Deadline: 300, Steps: []api.Step{
	{Name: "é", Party: "hotel", Timeout: 1, Try: api.Plan{Retries: 2, Base: 3, Factor: 4, Cap: 5}, Undo: api.Plan{Retries: 6, Base: 7, Factor: 8, Cap: 9}, Prio: 10},
	{Name: "a", Party: "order", Timeout: 11, Try: api.Plan{Retries: 12, Base: 1, Factor: 16, Cap: 1 << 40}, Undo: api.Plan{Retries: 0, Base: 2, Factor: 1, Cap: 2}, Prio: 0},
}}

const hTwo = hOrder + h300 + h2 +
	h2 + "c3 a9 " + hHotel + h1 + h2 + h3 + h4 + h5 + h6 + h7 + h8 + h9 + h10 +
	hA + hOrder + h11 + h12 + h1 + "00 00 00 00 00 00 00 10 " + h40 + h0 + h2 + h1 + h2 + h0

// P15.1: forms of definitions, written out by hand.
func TestPutDefByHand(t *testing.T) {
	zeroStep := strings.Repeat(h0, 12)
	for _, c := range []struct {
		name string
		d    api.Def
		form string
	}{
		{"nothing", api.Def{}, h0 + h0 + h0},
		{"no elements", api.Def{Steps: []api.Step{}}, h0 + h0 + h0},
		{"no length", api.Def{Steps: right(3).Steps[:0]}, h0 + h0 + h0},
		{"a name alone", api.Def{Name: "a"}, hA + h0 + h0},
		{"a step of zeros", api.Def{Steps: make([]api.Step, 1)}, h0 + h0 + h1 + zeroStep},
		{"32 steps of zeros", api.Def{Steps: make([]api.Step, 32)}, h0 + h0 + h32 + strings.Repeat(zeroStep, 32)},
		{"33 steps of zeros", api.Def{Steps: make([]api.Step, 33)}, h0 + h0 + h33 + strings.Repeat(zeroStep, 33)},
		{"two steps", two, hTwo},
		{"bytes that are no runes", api.Def{Name: "\xff\x00\x80", Steps: []api.Step{{Name: "\xc3", Party: "\xed\xa0\x80"}}}, h3 + "ff 00 80" + h0 + h1 + h1 + "c3" + h3 + "ed a0 80" + strings.Repeat(h0, 10)},
		{"a text of 300", api.Def{Name: strings.Repeat("a", 300)}, h300 + strings.Repeat("61", 300) + h0 + h0},
		{"a deadline below 0", api.Def{Name: "a", Deadline: -1}, hA + h0 + h0},
		{"the least deadline", api.Def{Name: "a", Deadline: lowest}, hA + h0 + h0},
		{"a deadline of 2^62", api.Def{Name: "a", Deadline: top}, hA + hTop + h0},
		{"a deadline above it", api.Def{Name: "a", Deadline: top + 1}, hA + hTop + h0},
		{"the greatest deadline", api.Def{Name: "a", Deadline: highest}, hA + hTop + h0},
		{"numbers outside", api.Def{Steps: []api.Step{{Timeout: highest, Try: api.Plan{Retries: -1, Base: top, Factor: lowest, Cap: top + 1}, Undo: api.Plan{Retries: highest, Base: -2, Factor: 3, Cap: lowest}, Prio: highest}}}, h0 + h0 + h1 + h0 + h0 + hTop + h0 + hTop + h0 + hTop + hTop + h0 + h3 + h0 + hTop},
	} {
		if got, want := putDef(t, c.d), hand(t, c.form); !bytes.Equal(got, want) {
			t.Errorf("%s: %s, not %s", c.name, tell(got), tell(want))
		}
	}
	if d, at, e := TakeDef(hand(t, hTwo)); !def.Same(d, two) || at != 0 || e != api.OK {
		t.Errorf("%s, %d, %d", tell(d), at, e)
	}
}

// P15.1: each number and each text of a definition, at its edges.
func TestPutDefFields(t *testing.T) {
	for _, n := range []int{0, 1, 2, mostSteps, mostSteps + 1, 100} {
		putDef(t, right(n))
		putDef(t, long(n))
		d := right(n)
		for i := 0; i < len(numsOf(&d)); i += 1 + n/4 { // of many steps some fields
			for _, x := range someNums() {
				d := right(n)
				numsOf(&d)[i].SetInt(int64(x))
				putDef(t, d)
			}
		}
	}
	for _, n := range []int{0, 1, 3} {
		d := right(n)
		for i := range textsOf(&d) {
			for _, s := range append(someTexts(), farTexts()...) {
				d := right(n)
				textsOf(&d)[i].SetString(s)
				putDef(t, d)
			}
		}
	}
}

// P15.1: forms of sagas, written out by hand.
func TestPutSagaByHand(t *testing.T) {
	for _, c := range []struct {
		name string
		s    api.Saga
		form string
	}{
		{"the saga of zeros", api.Saga{}, strings.Repeat("00", 65)},
		{"all fields", api.Saga{ID: 1, Def: "order", Start: 2, Phase: 3, Step: 4, Tries: 5, Out: true, At: 6, Skips: 7}, h1 + hOrder + h2 + h3 + h4 + h5 + "01" + h6 + h7},
		{"nothing out", api.Saga{ID: 7, Def: "é", Start: 300, Phase: 5, Step: 31, Tries: 1, At: 1 << 40, Skips: 32}, h7 + h2 + "c3 a9" + h300 + h5 + "00 00 00 00 00 00 00 1f" + h1 + "00" + h40 + h32},
		{"out alone", api.Saga{Out: true}, strings.Repeat(h0, 6) + "01" + h0 + h0},
		{"below 0", api.Saga{ID: -1, Def: "a", Start: lowest, Phase: -2, Step: -1, Tries: -1, At: -1, Skips: lowest}, h0 + hA + h0 + h0 + h0 + h0 + "00" + h0 + h0},
		{"2^62", api.Saga{ID: top, Start: top, Phase: top, Step: top, Tries: top, Out: true, At: top, Skips: top}, hTop + h0 + hTop + hTop + hTop + hTop + "01" + hTop + hTop},
		{"above it", api.Saga{ID: top + 1, Start: highest, Phase: highest, Step: top + 1, Tries: highest, At: highest, Skips: highest}, hTop + h0 + hTop + hTop + hTop + hTop + "00" + hTop + hTop},
		{"a text of 300", api.Saga{Def: strings.Repeat("\xff", 300)}, h0 + h300 + strings.Repeat("ff", 300) + h0 + h0 + h0 + h0 + "00" + h0 + h0},
	} {
		if got, want := putSaga(t, c.s), hand(t, c.form); !bytes.Equal(got, want) {
			t.Errorf("%s: %s, not %s", c.name, tell(got), tell(want))
		}
	}
}

// someSaga is a saga whose numbers all differ.
func someSaga(out bool) api.Saga {
	return api.Saga{ID: 11, Def: "order", Start: 12, Phase: 1, Step: 2, Tries: 3, Out: out, At: 13, Skips: 4}
}

// P15.1: each number and each text of a saga, at its edges; no definition is asked for.
func TestPutSagaFields(t *testing.T) {
	for _, out := range []bool{false, true} {
		s := someSaga(out)
		for i := range numsOf(&s) {
			for _, x := range someNums() {
				s := someSaga(out)
				numsOf(&s)[i].SetInt(int64(x))
				putSaga(t, s)
			}
		}
		for _, text := range append(someTexts(), farTexts()...) {
			s := someSaga(out)
			s.Def = text
			b := putSaga(t, s)
			if len(text) <= mostText {
				taker(takeSaga).wants(t, b, 0, api.OK)
			} else {
				taker(takeSaga).wants(t, b, 8, api.ErrLarge)
			}
		}
	}
}

// P15.1 and P15.3: a saga that no definition is right for is taken all the same.
func TestTakeAnySaga(t *testing.T) {
	edges := []int{0, 1, 2, 5, 6, 33, 1001, end, end + 1, top}
	for _, n := range edges {
		for _, k := range edges {
			for _, text := range []string{"", "a", "1", "\xff", strings.Repeat("\x00", mostText)} {
				s := api.Saga{ID: n, Def: text, Start: k, Phase: n, Step: k, Tries: n, Out: n == k, At: k, Skips: n}
				if got, at, e := TakeSaga(putSaga(t, s)); got != s || at != 0 || e != api.OK {
					t.Fatalf("%s was put, and %s, %d, %d is taken", tell(s), tell(got), at, e)
				}
			}
		}
	}
}

// forms are right forms by their fields, of each taking call.
func forms() map[string][][]piece {
	l := map[string][][]piece{}
	for _, d := range rightDefs() {
		l["def"] = append(l["def"], defPieces(d))
		l["event"] = append(l["event"], eventPieces(api.Event{Kind: api.EvDefine, Now: 9, Def: d}))
	}
	for _, v := range baseEvents() {
		l["event"] = append(l["event"], eventPieces(v))
	}
	for _, s := range []api.Saga{{}, someSaga(true), someSaga(false), {ID: top, Def: strings.Repeat("\xff", mostText), Out: true, At: top}} {
		l["saga"] = append(l["saga"], sagaPieces(s))
	}
	return l
}

// baseEvents are right events, one of each kind, and a second one of some.
func baseEvents() []api.Event {
	l := []api.Event{
		{Kind: api.EvDefine, Now: 7, Def: two},
		{Kind: api.EvStart, Now: 8, Saga: 3, Name: "order"},
		{Kind: api.EvReply, Now: 9, Saga: 4, Reply: api.Reply{Saga: 4, Step: 2, Undo: true, Try: 1, Good: true}},
	}
	for kind := range kinds {
		if kind != api.EvDefine && kind != api.EvStart && kind != api.EvReply {
			l = append(l, api.Event{Kind: kind, Now: 10 + kind, Saga: 20 + kind})
		}
	}
	return append(l,
		api.Event{Kind: api.EvStart, Name: strings.Repeat("\U0010ffff", 64)},
		api.Event{Kind: api.EvReply},
		api.Event{Kind: api.EvReply, Saga: 1, Reply: api.Reply{Saga: 2, Step: top, Try: top}},
		api.Event{Kind: api.EvForget, Now: end, Saga: top})
}

// P15.1 and P15.2: each right form is taken; with bytes behind it, the place is where they begin.
func TestTakeWholeAndMore(t *testing.T) {
	for name, l := range forms() {
		take := takers[name]
		for _, fields := range l {
			b := joined(fields)
			take.wants(t, b, 0, api.OK)
			for _, more := range [][]byte{{0}, {1}, {0xff}, make([]byte, 8), make([]byte, 96), make([]byte, 1000), b} {
				take.wants(t, slices.Concat(b, more), len(b), api.ErrForm)
			}
		}
	}
}

// cutPlace is the place of the field that fails where a form is cut off.
func cutPlace(fields []piece, size int) int {
	at := places(fields)
	for i, p := range fields {
		if at[i+1] > size || p.what == isCount && size-at[i+1] < p.n*leastStep {
			return at[i]
		}
	}
	return -1
}

// P15.1 and P15.2: each right form cut off at every length, with what was cut behind it in memory, and without.
func TestTakeCutOff(t *testing.T) {
	for name, l := range forms() {
		take := takers[name]
		for _, fields := range l {
			b := joined(fields)
			for size := range b {
				if len(b) > 5000 && size%7 > 0 && size < len(b)-700 {
					continue
				}
				at := cutPlace(fields, size)
				take.wants(t, b[:size], at, api.ErrShort)
				take.wants(t, bytes.Clone(b[:size]), at, api.ErrShort)
			}
		}
	}
}

// P15.1: no bytes at all.
func TestTakeNothing(t *testing.T) {
	for _, take := range takers {
		take.wants(t, nil, 0, api.ErrShort)
		take.wants(t, []byte{}, 0, api.ErrShort)
		take.wants(t, PutDef(two)[:0], 0, api.ErrShort)
	}
}

// spoilt is a form in a field's place that fails there.
type spoilt struct {
	form []byte
	e    api.Errno
}

// spoils are forms that fail in the place of a field, with so many bytes behind it.
func spoils(p piece, behind int) []spoilt {
	if p.what == isFlag {
		return []spoilt{{[]byte{2}, api.ErrForm}, {[]byte{0x80}, api.ErrForm}, {[]byte{0xff}, api.ErrForm}}
	}
	var l []spoilt
	rest := p.form()[8:]
	put := func(n uint64, rest []byte, e api.Errno) {
		l = append(l, spoilt{slices.Concat(eight(n), rest), e})
	}
	put(top+1, rest, api.ErrLarge)
	put(1<<63, rest, api.ErrLarge)
	put(math.MaxUint64, rest, api.ErrLarge)
	switch p.what {
	case isText:
		put(mostText+1, rest, api.ErrLarge)
		put(mostText+1, bytes.Repeat([]byte("a"), mostText+1), api.ErrLarge)
		put(1<<16, rest, api.ErrLarge)
		put(top, rest, api.ErrLarge)
		for n := len(rest) + behind + 1; n <= mostText; n += 1 + n%17 {
			put(uint64(n), rest, api.ErrShort)
		}
	case isCount:
		put(mostSteps+1, rest, api.ErrLarge)
		put(mostSteps+2, rest, api.ErrLarge)
		put(256, rest, api.ErrLarge)
		put(top, rest, api.ErrLarge)
		for n := behind/leastStep + 1; n <= mostSteps; n++ {
			put(uint64(n), rest, api.ErrShort)
		}
	case isKindNum:
		for _, kind := range []uint64{11, 12, 256, 1 << 32, top} {
			put(kind, rest, api.ErrKind)
		}
	}
	return l
}

// P15.1 and P15.2: each single field at fault, at each place: its error, and the place where its form begins.
func TestTakeOneFieldSpoilt(t *testing.T) {
	for name, l := range forms() {
		take := takers[name]
		for _, fields := range l {
			b, at := joined(fields), places(fields)
			for i, p := range fields {
				for _, s := range spoils(p, len(b)-at[i+1]) {
					take.wants(t, slices.Concat(b[:at[i]], s.form, b[at[i+1]:]), at[i], s.e)
				}
			}
		}
	}
}

// P15.1 and R2: two fields at fault, of any kind: the first one's.
func TestTakeTwoFieldsSpoilt(t *testing.T) {
	defined := api.Event{Kind: api.EvDefine, Def: two}
	for name, l := range map[string][][]piece{
		"def":   {defPieces(right(1)), defPieces(two)},
		"saga":  {sagaPieces(someSaga(true)), sagaPieces(api.Saga{})},
		"event": {eventPieces(defined), eventPieces(baseEvents()[1]), eventPieces(baseEvents()[2]), eventPieces(baseEvents()[5])},
	} {
		take := takers[name]
		for _, fields := range l {
			b, at := joined(fields), places(fields)
			for i, p := range fields {
				for j := i + 1; j < len(fields); j++ {
					for _, later := range spoils(fields[j], len(b)-at[j+1]) {
						behind := slices.Concat(b[at[i+1]:at[j]], later.form, b[at[j+1]:])
						for _, s := range spoils(p, len(behind)) {
							take.wants(t, slices.Concat(b[:at[i]], s.form, behind), at[i], s.e)
						}
					}
				}
			}
		}
	}
}

// P15.1 and R2: a field at fault ahead of bytes that are left, and of a definition that isn't right; bytes that are left ahead of that.
func TestTakeOrder(t *testing.T) {
	takeD, takeV := taker(takeDef), taker(takeEvent)
	bad := api.Def{Name: "1", Deadline: end + 1, Steps: []api.Step{{}, {}}}
	b := putDef(t, bad)
	takeD.wants(t, b, 0, api.ErrKind)
	takeD.wants(t, append(bytes.Clone(b), 0), len(b), api.ErrForm)
	takeD.wants(t, b[:len(b)-1], 17, api.ErrShort) // the count, of more than are there
	large := slices.Concat(b[:len(b)-8], eight(top+1))
	takeD.wants(t, large, len(b)-8, api.ErrLarge)
	takeD.wants(t, append(large, 0), len(b)-8, api.ErrLarge)
	head := hand(t, h0+h7+h0)
	takeV.wants(t, slices.Concat(head, b), 0, api.ErrKind)
	takeV.wants(t, slices.Concat(head, b, []byte{0}), 24+len(b), api.ErrForm)
	takeV.wants(t, slices.Concat(head, b[:len(b)-1]), 24+17, api.ErrShort)
	takeV.wants(t, slices.Concat(head, large), 24+len(b)-8, api.ErrLarge)
}

// P15.1: texts' lengths, written out: 256 bytes are taken, one more is too many, though the bytes are there.
func TestTakeTextLengths(t *testing.T) {
	d := right(1)
	d.Name = strings.Repeat("\U0010ffff", 64)
	taker(takeDef).wants(t, PutDef(d), 0, api.OK)
	d.Name = strings.Repeat("a", 256)
	taker(takeDef).wants(t, PutDef(d), 0, api.ErrKind)
	d.Name += "a"
	taker(takeDef).wants(t, PutDef(d), 0, api.ErrLarge)
	d = right(2)
	d.Steps[1].Party = strings.Repeat("a", 256)
	taker(takeDef).wants(t, PutDef(d), 0, api.ErrKind)
	d.Steps[1].Party += "a"
	taker(takeDef).wants(t, PutDef(d), 13+8+8+(98+2)+10, api.ErrLarge)
	for _, n := range []string{"a", "\xff"} {
		s := api.Saga{Def: strings.Repeat(n, 256)}
		taker(takeSaga).wants(t, PutSaga(s), 0, api.OK)
		s.Def += n
		taker(takeSaga).wants(t, PutSaga(s), 8, api.ErrLarge)
	}
	start := slices.Concat(eight(api.EvStart), eight(0), eight(0))
	taker(takeEvent).wants(t, slices.Concat(start, textForm(strings.Repeat("\U0010ffff", 64))), 0, api.OK)
	taker(takeEvent).wants(t, slices.Concat(start, textForm(strings.Repeat("a", 256))), 0, api.ErrKind)
	taker(takeEvent).wants(t, slices.Concat(start, textForm(strings.Repeat("a", 257))), 24, api.ErrLarge)
}

// P15.1: a count of steps by what is behind it, step by step.
func TestTakeCounts(t *testing.T) {
	head := slices.Concat(textForm("a"), eight(0))
	for n := range 70 {
		for _, behind := range []int{0, 1, 95, 96, 97, 191, 192, 3071, 3072, 3073, 3167, 3168, 6720} {
			b := slices.Concat(head, eight(uint64(n)), make([]byte, behind))
			want := result{0, api.ErrKind} // steps of zeros aren't right, no steps neither
			switch {
			case n > 32:
				want = result{17, api.ErrLarge}
			case behind < n*96:
				want = result{17, api.ErrShort}
			case behind > n*96:
				want = result{25 + n*96, api.ErrForm}
			}
			taker(takeDef).wants(t, b, want.at, want.e)
			if want.e != api.ErrKind {
				want.at += 24
			}
			taker(takeEvent).wants(t, slices.Concat(make([]byte, 24), b), want.at, want.e)
		}
	}
	for _, n := range []int{33, 34, 100} {
		taker(takeDef).wants(t, PutDef(right(n)), 21, api.ErrLarge)
		taker(takeDef).wants(t, PutDef(api.Def{Steps: make([]api.Step, n)}), 16, api.ErrLarge)
	}
}

// P15.1 and P15.2: definitions that can be taken, but aren't right, by each fault of layer 13.
func TestTakeFaults(t *testing.T) {
	for _, f := range faults() {
		if isRightDef(f.d) {
			t.Fatalf("%s: right", f.name)
		}
		b := putDef(t, f.d)
		taker(takeDef).wants(t, b, 0, api.ErrKind)
		for _, now := range []int{0, end} {
			taker(takeEvent).wants(t, slices.Concat(eight(0), eight(uint64(now)), eight(0), b), 0, api.ErrKind)
			wrong(t, api.Event{Kind: api.EvDefine, Now: now, Def: f.d})
		}
	}
	for _, n := range []int{33, 100} {
		wrong(t, api.Event{Kind: api.EvDefine, Def: right(n)})
	}
	for _, f := range []func(d *api.Def){
		func(d *api.Def) { d.Deadline = -1 },
		func(d *api.Def) { d.Deadline = lowest },
		func(d *api.Def) { d.Steps[1].Timeout = -1 },
		func(d *api.Def) { d.Steps[1].Prio = -1 },
		func(d *api.Def) { d.Steps[1].Try.Retries = -1 },
		func(d *api.Def) { d.Steps[1].Undo.Cap = lowest },
	} {
		d := right(2)
		f(&d)
		wrong(t, api.Event{Kind: api.EvDefine, Def: d})
	}
}

// P15.2: forms of events, written out by hand.
func TestPutEventByHand(t *testing.T) {
	for _, c := range []struct {
		name string
		v    api.Event
		form string
	}{
		{"define", api.Event{Kind: api.EvDefine, Now: 7, Def: two}, h0 + h7 + h0 + hTwo},
		{"start", api.Event{Kind: api.EvStart, Now: 300, Saga: 5, Name: "order"}, h1 + h300 + h5 + hOrder},
		{"emit", api.Event{Kind: api.EvEmit, Now: 1, Saga: 9}, h2 + h1 + h9},
		{"reply", api.Event{Kind: api.EvReply, Now: 4, Saga: 5, Reply: api.Reply{Saga: 6, Step: 7, Undo: true, Try: 8, Good: false}}, h3 + h4 + h5 + h6 + h7 + "01" + h8 + "00"},
		{"good reply", api.Event{Kind: api.EvReply, Now: 4, Saga: 5, Reply: api.Reply{Saga: 5, Step: 0, Undo: false, Try: 1, Good: true}}, h3 + h4 + h5 + h5 + h0 + "00" + h1 + "01"},
		{"reply of zeros", api.Event{Kind: api.EvReply}, h3 + strings.Repeat("00", 42)},
		{"late", api.Event{Kind: api.EvLate, Now: 1 << 40, Saga: 0}, h4 + h40 + h0},
		{"expire", api.Event{Kind: api.EvExpire, Now: 0, Saga: top}, h5 + h0 + hTop},
		{"cancel", api.Event{Kind: api.EvCancel, Now: 2, Saga: 1}, h6 + h2 + h1},
		{"retry", api.Event{Kind: api.EvRetry, Now: 2, Saga: 1}, h7 + h2 + h1},
		{"skip", api.Event{Kind: api.EvSkip, Now: 2, Saga: 1}, h8 + h2 + h1},
		{"abandon", api.Event{Kind: api.EvAbandon, Now: 2, Saga: 1}, h9 + h2 + h1},
		{"forget", api.Event{Kind: api.EvForget, Now: 2, Saga: 300}, h10 + h2 + h300},
		{"the greatest saga", api.Event{Kind: api.EvForget, Saga: highest}, h10 + h0 + hTop},
		{"the greatest reply", api.Event{Kind: api.EvReply, Reply: api.Reply{Saga: highest, Step: top + 1, Try: highest}}, h3 + h0 + h0 + hTop + hTop + "00" + hTop + "00"},
	} {
		fine(t, c.v)
		if got, want := putEvent(t, c.v), hand(t, c.form); !bytes.Equal(got, want) {
			t.Errorf("%s: %s, not %s", c.name, tell(got), tell(want))
		}
	}
}

// P15.2: Kind, Now and Saga at their edges, of right events of each kind.
func TestGoodHead(t *testing.T) {
	for _, base := range baseEvents() {
		fine(t, base)
		for _, kind := range []int{lowest, -11, -1, 11, 12, 256, 1 << 32, 1<<32 + 4, highest} {
			v := base
			v.Kind = kind
			wrong(t, v)
			wrong(t, api.Event{Kind: kind})
		}
		for _, now := range []int{0, 1, 1 << 32, end - 1, end} {
			v := base
			v.Now = now
			fine(t, v)
		}
		for _, now := range []int{lowest, -end, -2, -1, end + 1, end + 2, 1 << 41, top, highest} {
			v := base
			v.Now = now
			wrong(t, v)
		}
		for _, saga := range []int{0, 1, 1 << 32, 1 << 50, top - 1, top, top + 1, highest} {
			v := base
			v.Saga = saga
			if v.Kind == api.EvDefine && saga != 0 {
				wrong(t, v)
				continue
			}
			fine(t, v)
		}
		for _, saga := range []int{lowest, -end, -2, -1} {
			v := base
			v.Saga = saga
			wrong(t, v)
		}
	}
}

// extra is a single thing that an event has, and the kind that may have it.
type extra struct {
	name string
	kind int
	do   func(v *api.Event)
}

func extras() []extra {
	l := []extra{
		{"undo", api.EvReply, func(v *api.Event) { v.Reply.Undo = true }},
		{"good", api.EvReply, func(v *api.Event) { v.Reply.Good = true }},
		{"a right definition", api.EvDefine, func(v *api.Event) { v.Def = right(1) }},
		{"a step", api.EvDefine, func(v *api.Event) { v.Def.Steps = right(1).Steps }},
		{"a step of zeros", api.EvDefine, func(v *api.Event) { v.Def.Steps = make([]api.Step, 1) }},
		{"steps of zeros", api.EvDefine, func(v *api.Event) { v.Def.Steps = make([]api.Step, 33) }},
	}
	for _, n := range []int{lowest, -1, 1, 7, end, highest} {
		l = append(l,
			extra{"reply's saga", api.EvReply, func(v *api.Event) { v.Reply.Saga = n }},
			extra{"reply's step", api.EvReply, func(v *api.Event) { v.Reply.Step = n }},
			extra{"reply's try", api.EvReply, func(v *api.Event) { v.Reply.Try = n }},
			extra{"deadline", api.EvDefine, func(v *api.Event) { v.Def.Deadline = n }})
	}
	for _, s := range []string{"a", "order", "1", "\x00", "\xff", " ", strings.Repeat("a", 300)} {
		l = append(l,
			extra{"name", api.EvStart, func(v *api.Event) { v.Name = s }},
			extra{"definition's name", api.EvDefine, func(v *api.Event) { v.Def.Name = s }})
	}
	return l
}

// P15.2: of each kind each single thing that it doesn't have.
func TestGoodHasNothingElse(t *testing.T) {
	for _, base := range baseEvents() {
		for _, x := range extras() {
			if x.kind == base.Kind {
				continue
			}
			v := base
			x.do(&v)
			wrong(t, v)
			v = api.Event{Kind: base.Kind}
			x.do(&v)
			wrong(t, v)
		}
		if base.Kind == api.EvDefine {
			for _, saga := range []int{lowest, -1, 1, 2, top, highest} {
				v := base
				v.Saga = saga
				wrong(t, v)
			}
		}
	}
	for kind := range kinds {
		v := api.Event{Kind: kind, Name: "a", Reply: api.Reply{Saga: 1, Try: 1}, Def: right(1)}
		wrong(t, v)
	}
}

// P15.2 and R3: a list of steps without elements is the same as nil.
func TestGoodNoElements(t *testing.T) {
	for _, base := range baseEvents() {
		for _, steps := range [][]api.Step{nil, {}, make([]api.Step, 0, 9), right(3).Steps[:0], right(3).Steps[3:]} {
			v := base
			v.Def.Steps = steps
			if v.Kind == api.EvDefine {
				wrong(t, v)
				continue
			}
			fine(t, v)
			if other, _ := PutEvent(base); !bytes.Equal(putEvent(t, v), other) {
				t.Errorf("%s: another form", tell(v))
			}
		}
	}
}

// P15.2: names that are none, and such as are.
func TestGoodNames(t *testing.T) {
	for _, name := range []string{"a", "Z", "a1", "a-_9", "é", "\ufffd", "do", strings.Repeat("a", 64), strings.Repeat("é", 64), strings.Repeat("\U0010ffff", 64)} {
		fine(t, api.Event{Kind: api.EvStart, Name: name})
		fine(t, api.Event{Kind: api.EvStart, Now: end, Saga: 9, Name: name})
	}
	for _, name := range []string{"", "1", "-", "_a", " ", "a b", "a/b", "/", "a.b", "\x00", "a\x00", "\xff", "a\xff", "\xc3", "\xed\xa0\x80", strings.Repeat("a", 65), strings.Repeat("é", 65), strings.Repeat("a", 256), strings.Repeat("a", 1<<16)} {
		v := api.Event{Kind: api.EvStart, Now: 1, Saga: 2, Name: name}
		wrong(t, v)
		b := joined(eventPieces(v))
		if len(name) <= mostText {
			taker(takeEvent).wants(t, b, 0, api.ErrKind)
		} else {
			taker(takeEvent).wants(t, b, 24, api.ErrLarge)
		}
	}
}

// P15.2: definitions of events, right at their edges.
func TestGoodDefs(t *testing.T) {
	for _, d := range rightDefs() {
		fine(t, api.Event{Kind: api.EvDefine, Now: 5, Def: d})
	}
	wrong(t, api.Event{Kind: api.EvDefine})
	wrong(t, api.Event{})
}

// P15.2: a reply's numbers, each below 0 and not; its saga need not be the event's.
func TestGoodReplies(t *testing.T) {
	edges := []int{lowest, -1, 0, 1, top, highest}
	for _, saga := range edges {
		for _, step := range edges {
			for _, try := range edges {
				for flags := range 4 {
					r := api.Reply{Saga: saga, Step: step, Undo: flags&1 == 1, Try: try, Good: flags&2 == 2}
					v := api.Event{Kind: api.EvReply, Now: 3, Saga: 1, Reply: r}
					if min(saga, step, try) < 0 {
						wrong(t, v)
					} else {
						fine(t, v)
					}
				}
			}
		}
	}
}

// P15.2: forms whose kind is none: at 0, whatever stands behind it, or nothing.
func TestTakeNoKind(t *testing.T) {
	take := taker(takeEvent)
	for _, kind := range []uint64{11, 12, 13, 255, 256, 1 << 32, 1<<32 + 4, 1<<62 - 1, 1 << 62} {
		take.wants(t, eight(kind), 0, api.ErrKind)
		for _, behind := range [][]byte{{0}, {0xff}, make([]byte, 7), make([]byte, 16), bytes.Repeat([]byte{0xff}, 16), make([]byte, 17), slices.Concat(eight(top+1), eight(0)), slices.Concat(eight(end+1), eight(0)), PutDef(two), PutSaga(api.Saga{})} {
			take.wants(t, slices.Concat(eight(kind), behind), 0, api.ErrKind)
		}
	}
	for _, kind := range []uint64{1<<62 + 1, 1 << 63, math.MaxUint64} {
		take.wants(t, eight(kind), 0, api.ErrLarge)
		take.wants(t, slices.Concat(eight(kind), make([]byte, 16)), 0, api.ErrLarge)
	}
	for size := range 8 {
		take.wants(t, eight(11)[:size], 0, api.ErrShort)
		take.wants(t, bytes.Repeat([]byte{0xff}, size), 0, api.ErrShort)
	}
}

// P15.2: forms of events that aren't right, by the things that a form can have.
func TestTakeWrongEvents(t *testing.T) {
	take := taker(takeEvent)
	for _, base := range baseEvents() {
		for _, now := range []int{end + 1, 1 << 41, top} {
			v := base
			v.Now = now
			take.wants(t, joined(eventPieces(v)), 0, api.ErrKind)
			b := append(joined(eventPieces(v)), 7)
			take.wants(t, b, len(b)-1, api.ErrForm)
		}
		if base.Kind != api.EvDefine {
			continue
		}
		for _, saga := range []int{1, 2, 256, end, top} {
			v := base
			v.Saga = saga
			take.wants(t, joined(eventPieces(v)), 0, api.ErrKind)
		}
	}
	rest := joined(eventPieces(baseEvents()[2]))[8:]
	for kind := range uint64(kinds) { // one kind's fields behind another one's number
		take(t, slices.Concat(eight(kind), rest))
		take(t, slices.Concat(eight(kind), eight(1), eight(2), textForm("a")))
		take(t, slices.Concat(eight(kind), eight(1), eight(0), PutDef(two)))
		take(t, slices.Concat(eight(kind), eight(1), eight(0)))
	}
}

// drawnName draws a name.
func drawnName(m *mixer) string {
	runes := []rune{rune('a' + m.below(26))}
	for range m.below(64) {
		runes = append(runes, []rune{'z', '0', '9', '-', '_', 'é', 0x80, 0xfffd, 0x10ffff, rune('A' + m.below(26))}[m.below(10)])
	}
	return string(runes)
}

func drawnPlan(m *mixer) api.Plan {
	p := api.Plan{Retries: m.upTo(0, 1000), Base: m.upTo(1, end), Factor: m.upTo(1, 16)}
	p.Cap = m.upTo(p.Base, end)
	return p
}

// drawnDef draws a right definition.
func drawnDef(m *mixer) api.Def {
	d := api.Def{Name: drawnName(m), Deadline: m.upTo(0, end)}
	for i := range m.upTo(1, mostSteps) {
		name := "s" + strconv.Itoa(i) + drawnName(m)
		for !label.Good(name) {
			name = name[:len(name)-1]
		}
		d.Steps = append(d.Steps, api.Step{Name: name, Party: drawnName(m), Timeout: m.upTo(1, end), Try: drawnPlan(m), Undo: drawnPlan(m), Prio: m.upTo(0, 255)})
	}
	if m.below(2) == 0 {
		slices.Reverse(d.Steps)
	}
	return d
}

// drawnText draws a text of any bytes that may be taken.
func drawnText(m *mixer) string {
	b := make([]byte, m.upTo(0, mostText))
	for i := range b {
		b[i] = byte(m.below(256))
	}
	return string(b)
}

// drawnEvent draws a right event.
func drawnEvent(m *mixer, kind int) api.Event {
	v := api.Event{Kind: kind, Now: m.upTo(0, end), Saga: m.upTo(0, top)}
	switch kind {
	case api.EvDefine:
		v.Saga, v.Def = 0, drawnDef(m)
	case api.EvStart:
		v.Name = drawnName(m)
	case api.EvReply:
		v.Reply = api.Reply{Saga: m.upTo(0, top), Step: m.upTo(0, top), Undo: m.flag(), Try: m.upTo(0, top), Good: m.flag()}
	}
	return v
}

// P15.3: right definitions, drawn and at their edges, are taken from their forms as they were.
func TestDefsAsTheyWere(t *testing.T) {
	m := mixer(1)
	l := rightDefs()
	for range 2000 {
		l = append(l, drawnDef(&m))
	}
	for _, d := range l {
		if !isRightDef(d) {
			t.Fatalf("%s isn't right", tell(d))
		}
		if got, at, e := TakeDef(putDef(t, d)); !def.Same(got, d) || at != 0 || e != api.OK {
			t.Fatalf("%s was put, and %s, %d, %d is taken", tell(d), tell(got), at, e)
		}
	}
}

// P15.3: sagas of numbers from 0 to 2^62 are taken from their forms as they were.
func TestSagasAsTheyWere(t *testing.T) {
	m := mixer(2)
	for range 20_000 {
		s := api.Saga{ID: m.upTo(0, top), Def: drawnText(&m), Start: m.upTo(0, top), Phase: m.upTo(0, top), Step: m.upTo(0, top), Tries: m.upTo(0, top), Out: m.flag(), At: m.upTo(0, top), Skips: m.upTo(0, top)}
		if got, at, e := TakeSaga(putSaga(t, s)); got != s || at != 0 || e != api.OK {
			t.Fatalf("%s was put, and %s, %d, %d is taken", tell(s), tell(got), at, e)
		}
	}
}

// P15.3: right events of each kind are taken from their forms as they were; two unlike ones have two forms.
func TestEventsAsTheyWere(t *testing.T) {
	m := mixer(3)
	seen := map[string]api.Event{}
	for kind := range kinds {
		for range 1500 {
			v := drawnEvent(&m, kind)
			fine(t, v)
			b := string(putEvent(t, v))
			if other, ok := seen[b]; ok && !sameEvent(v, other) {
				t.Fatalf("%s and %s have one form", tell(v), tell(other))
			}
			seen[b] = v
		}
	}
}

// P15.3: right forms with each byte turned: what is taken has just that form.
func TestTakeTurned(t *testing.T) {
	small := map[string][][]piece{
		"def":  {defPieces(right(1)), defPieces(two)},
		"saga": {sagaPieces(api.Saga{}), sagaPieces(someSaga(true))},
	}
	for _, v := range baseEvents() {
		small["event"] = append(small["event"], eventPieces(v))
	}
	taken := map[string]int{}
	for name, l := range small {
		for _, fields := range l {
			b := joined(fields)
			for i := range b {
				for turn := 1; turn < 256; turn++ {
					b[i] ^= byte(turn)
					if takers[name](t, b).e == api.OK {
						taken[name]++
					}
					b[i] ^= byte(turn)
				}
			}
		}
	}
	for name, l := range forms() {
		for _, fields := range l {
			b := joined(fields)
			for i := 0; i < len(b); i += 1 + len(b)/500 {
				for _, turn := range []byte{1, 2, 0x40, 0x80, 0xff} {
					b[i] ^= turn
					takers[name](t, b)
					b[i] ^= turn
				}
			}
		}
	}
	for name := range small {
		if taken[name] < 1000 {
			t.Errorf("%s: %d turned forms are taken", name, taken[name])
		}
	}
}

// P15.3: right forms with a byte less, a byte more, and two bytes turned.
func TestTakeSpoiltForms(t *testing.T) {
	m := mixer(4)
	for name, l := range forms() {
		for _, fields := range l {
			b := joined(fields)
			for range 300 {
				i := m.below(len(b))
				takers[name](t, slices.Concat(b[:i], b[i+1:]))
				takers[name](t, slices.Concat(b[:i], []byte{byte(m.below(3))}, b[i:]))
				turned := bytes.Clone(b)
				turned[i] ^= byte(m.below(256))
				turned[m.below(len(b))] = byte(m.below(256))
				takers[name](t, turned)
			}
		}
	}
}

// P15.3 and P1: bytes that are drawn, of any kind, and such as are near to forms.
func TestTakeDrawn(t *testing.T) {
	m := mixer(5)
	found := map[api.Errno]int{}
	for range 60_000 {
		var b []byte
		for range m.below(16) {
			switch m.below(6) {
			case 0:
				b = append(b, byte(m.below(256)))
			case 1:
				b = append(b, byte(m.below(2)))
			case 2:
				b = append(b, textForm(drawnText(&m))...)
			case 3:
				b = append(b, eight(uint64(m.upTo(0, highest-1)))...)
			default:
				b = append(b, eight(uint64(m.below(12)))...)
			}
		}
		for _, take := range takers {
			found[take(t, b).e]++
		}
	}
	for _, e := range []api.Errno{api.OK, api.ErrShort, api.ErrForm, api.ErrLarge, api.ErrKind} {
		if found[e] < 100 {
			t.Errorf("error %d: %d times", e, found[e])
		}
	}
}

// P1: all short rows of few bytes.
func TestTakeShortRows(t *testing.T) {
	for size := range 26 {
		for _, fill := range []byte{0, 1, 2, 0x40, 0xff} {
			b := bytes.Repeat([]byte{fill}, size)
			for i := range b {
				for _, other := range []byte{0, 1, 10, 11, 32, 0x40, 0xff} {
					was := b[i]
					b[i] = other
					for _, take := range takers {
						take(t, b)
					}
					b[i] = was
				}
			}
		}
	}
}

// overwrite writes over an answer and over all the memory behind it.
func overwrite(b []byte) {
	b = b[:cap(b)]
	for i := range b {
		b[i] ^= 0x5a
	}
	_ = append(b, 0x5a)
}

// P15.3 and R4: forms that are put are new memory, each time.
func TestPutIsNew(t *testing.T) {
	v := api.Event{Kind: api.EvDefine, Now: 1, Def: right(2)}
	reply := api.Event{Kind: api.EvReply, Saga: 1}
	for name, put := range map[string]func() []byte{
		"def":   func() []byte { return PutDef(v.Def) },
		"saga":  func() []byte { return PutSaga(someSaga(true)) },
		"event": func() []byte { b, _ := PutEvent(v); return b },
		"reply": func() []byte { b, _ := PutEvent(reply); return b },
	} {
		first, second := put(), put()
		kept := bytes.Clone(first)
		overwrite(first)
		if !bytes.Equal(second, kept) || !bytes.Equal(put(), kept) {
			t.Errorf("%s: what is put hangs on what was put", name)
		}
	}
	if !def.Same(v.Def, right(2)) {
		t.Error("a definition was changed")
	}
}

// P15.3 and R4: what is handed in to be put stays as it was, and what lies behind its list's length is neither read nor written.
func TestPutLeaves(t *testing.T) {
	all := right(4)
	d := all
	d.Steps = all.Steps[:2]
	want := joined(defPieces(right(2)))
	if !bytes.Equal(PutDef(d), want) {
		t.Error("what lies behind the length was put")
	}
	v := api.Event{Kind: api.EvDefine, Def: d}
	if b, e := PutEvent(v); e != api.OK || !bytes.Equal(b[24:], want) || !Good(v) {
		t.Error("what lies behind the length was put, or asked")
	}
	all.Steps[2].Name, all.Steps[3].Timeout = "s0", -1
	if b, e := PutEvent(v); e != api.OK || !bytes.Equal(b[24:], want) || !Good(v) {
		t.Error("what lies behind the length was asked")
	}
	kept := right(4)
	kept.Steps[2].Name, kept.Steps[3].Timeout = "s0", -1
	if !def.Same(all, kept) {
		t.Error("what was handed in was changed")
	}
}

// P15.3 and R4: what is taken doesn't hang on the bytes any more, nor on what is done with another answer; the bytes stay as they were, with what lies behind them.
func TestTakenIsNew(t *testing.T) {
	d := right(3)
	v := api.Event{Kind: api.EvDefine, Now: 1, Def: d}
	s := someSaga(true)
	start := api.Event{Kind: api.EvStart, Name: "order"}
	form, _ := PutEvent(v)
	startForm, _ := PutEvent(start)
	l := [][]byte{PutDef(d), form, PutSaga(s), startForm}
	kept := make([][]byte, len(l))
	for i, b := range l {
		l[i] = append(make([]byte, 0, len(b)+50), b...)
		copy(l[i][len(b):cap(l[i])], bytes.Repeat([]byte{0x77}, 50))
		kept[i] = bytes.Clone(l[i][:cap(l[i])])
	}
	d1, _, _ := TakeDef(l[0])
	d2, _, _ := TakeDef(l[0])
	v1, _, _ := TakeEvent(l[1])
	v2, _, _ := TakeEvent(l[1])
	s1, _, _ := TakeSaga(l[2])
	w1, _, _ := TakeEvent(l[3])
	for i, b := range l {
		if !bytes.Equal(b[:cap(b)], kept[i]) {
			t.Fatalf("the bytes %d were changed", i)
		}
		overwrite(b)
	}
	if !def.Same(d1, d) || !sameEvent(v1, v) || s1 != s || !sameEvent(w1, start) {
		t.Error("what was taken hangs on the bytes")
	}
	for _, steps := range [][]api.Step{d1.Steps, v1.Def.Steps} {
		steps = steps[:cap(steps)]
		for i := range steps {
			steps[i] = api.Step{Name: "x"}
		}
	}
	if !def.Same(d2, d) || !sameEvent(v2, v) {
		t.Error("two answers share memory")
	}
}

// P1: whatever is put, each call answers.
func TestAnyArguments(t *testing.T) {
	for _, n := range someNums() {
		for _, k := range someNums() {
			for _, s := range []string{"", "a", "1", "\xff", strings.Repeat("é", 65)} {
				p, q := api.Plan{Retries: n, Base: k, Factor: n, Cap: k}, api.Plan{Retries: k, Base: n, Factor: k, Cap: n}
				d := api.Def{Name: s, Deadline: n, Steps: []api.Step{{Name: s, Party: s, Timeout: k, Try: p, Undo: q, Prio: n}, {Name: "b", Party: s, Timeout: n, Try: q, Undo: p, Prio: k}}}
				putDef(t, d)
				putSaga(t, api.Saga{ID: n, Def: s, Start: k, Phase: n, Step: k, Tries: n, Out: n < k, At: k, Skips: n})
				r := api.Reply{Saga: n, Step: k, Undo: n < k, Try: n, Good: n > k}
				for _, v := range []api.Event{
					{Kind: n, Now: k, Saga: n, Name: s, Reply: r, Def: d},
					{Kind: n, Now: k, Saga: k},
					{Kind: api.EvDefine, Now: n, Saga: k, Def: d},
					{Kind: api.EvStart, Now: n, Saga: k, Name: s},
					{Kind: api.EvReply, Now: n, Saga: k, Reply: r},
					{Kind: api.EvSkip, Now: n, Saga: k},
					{Kind: api.EvSkip, Now: n, Saga: k, Name: s},
				} {
					putEvent(t, v)
				}
			}
		}
	}
}

func Example() {
	plan := api.Plan{Retries: 2, Base: 1, Factor: 2, Cap: 4}
	d := api.Def{Name: "order", Steps: []api.Step{{Name: "book", Party: "hotel", Timeout: 5, Try: plan, Undo: plan}}}
	form := PutDef(d)
	again, at, e := TakeDef(form)
	fmt.Println(len(form), def.Same(d, again), at, e == api.OK)
	_, at, e = TakeDef(form[:20])
	fmt.Println(at, e == api.ErrShort)
	s := api.Saga{ID: 3, Def: "order", Out: true}
	got, _, _ := TakeSaga(PutSaga(s))
	fmt.Println(len(PutSaga(api.Saga{})), got == s)
	v := api.Event{Kind: api.EvStart, Now: 9, Saga: 3, Name: "order"}
	form, e = PutEvent(v)
	fmt.Println(Good(v), len(form), e == api.OK)
	v.Name = "1"
	_, e = PutEvent(v)
	fmt.Println(Good(v), e == api.ErrForm)
	// Output:
	// 134 true 0 true
	// 13 true
	// 65 true
	// true 37 true
	// false true
}
