package journal

import (
	"encoding/binary"
	"fmt"
	"hash/crc32"
	"maps"
	"math"
	"slices"
	"strconv"
	"strings"
	"testing"

	"usufruct/api"
	"usufruct/def"
	"usufruct/saga"
	"usufruct/state"
	"usufruct/store"
)

const (
	lowest  = math.MinInt
	highest = math.MaxInt
	top     = 1 << 30 // the greatest number of a segment, and of a checkpoint
	widest  = 1 << 20 // the greatest size, and the greatest limit
	room    = 1 << 20 // bytes of a test's store
	all     = 1 << 20 // kept of what isn't safe: all of it
	bare    = 13      // bytes of an empty payload's record
	full    = 256     // files of a store
)

// mixer draws numbers by a rule, the same ones each time.
type mixer uint64

func (m *mixer) below(n int) int {
	*m = *m*6364136223846793005 + 1442695040888963407
	return int(uint64(*m)>>33) % n
}

// pick draws one of a list.
func pick[T any](m *mixer, l ...T) T {
	return l[m.below(len(l))]
}

// tell is anything, cut short where it is long, without bytes that are no rune's.
func tell(x any) string {
	s := strconv.QuoteToASCII(fmt.Sprintf("%+v", x))
	return s[:min(len(s), 900)]
}

// word is four bytes, the highest first.
func word(n uint32) string {
	return string(binary.BigEndian.AppendUint32(nil, n))
}

// rec is records of payloads, one behind the other, in the words of layer 6.
func rec(payloads ...string) string {
	row := ""
	for _, p := range payloads {
		size := word(uint32(len(p)))
		row += "\x5a" + size + word(crc32.ChecksumIEEE([]byte(size))) + p + word(crc32.ChecksumIEEE([]byte(p)))
	}
	return row
}

// num, text and flag are forms in the words of layer 4.
func num(l ...int) string {
	row := ""
	for _, n := range l {
		row += string(binary.BigEndian.AppendUint64(nil, uint64(n)))
	}
	return row
}

func text(s string) string {
	return num(len(s)) + s
}

func flag(yes bool) string {
	if yes {
		return "\x01"
	}
	return "\x00"
}

// defForm, sagaForm and eventForm are forms in the words of layer 15.
func defForm(d api.Def) string {
	form := text(d.Name) + num(d.Deadline, len(d.Steps))
	for _, s := range d.Steps {
		form += text(s.Name) + text(s.Party) + num(s.Timeout)
		form += num(s.Try.Retries, s.Try.Base, s.Try.Factor, s.Try.Cap)
		form += num(s.Undo.Retries, s.Undo.Base, s.Undo.Factor, s.Undo.Cap) + num(s.Prio)
	}
	return form
}

func sagaForm(s api.Saga) string {
	return num(s.ID) + text(s.Def) + num(s.Start, s.Phase, s.Step, s.Tries) + flag(s.Out) + num(s.At, s.Skips)
}

func eventForm(v api.Event) string {
	form := num(v.Kind, v.Now, v.Saga)
	switch v.Kind {
	case api.EvDefine:
		form += defForm(v.Def)
	case api.EvStart:
		form += text(v.Name)
	case api.EvReply:
		form += num(v.Reply.Saga, v.Reply.Step) + flag(v.Reply.Undo) + num(v.Reply.Try) + flag(v.Reply.Good)
	}
	return form
}

// eventForms are the forms of events.
func eventForms(row ...api.Event) []string {
	var l []string
	for _, v := range row {
		l = append(l, eventForm(v))
	}
	return l
}

// stateForm is a state's form in the words of layer 16.
func stateForm(x api.State) string {
	form := num(x.Next, len(x.Defs))
	for _, d := range x.Defs {
		form += text(defForm(d))
	}
	form += num(len(x.Sagas))
	for _, s := range x.Sagas {
		form += text(sagaForm(s))
	}
	return form
}

// come is what events come to, from a state on.
func come(t *testing.T, x api.State, row ...api.Event) api.State {
	t.Helper()
	for i, v := range row {
		var e api.Errno
		if x, _, e = state.Do(x, v, widest); e != api.OK {
			t.Fatalf("event %d %s: %d", i, tell(v), e)
		}
	}
	return x
}

// plan is a plan of so many retries.
func plan(retries int) api.Plan {
	return api.Plan{Retries: retries, Base: 2, Factor: 2, Cap: 8}
}

// trip is a definition of two steps, one retry each, and none of an undoing.
func trip() api.Def {
	return api.Def{Name: "trip", Deadline: 20, Steps: []api.Step{
		{Name: "book", Party: "hotel", Timeout: 5, Try: plan(1), Undo: plan(0)},
		{Name: "pay", Party: "bank", Timeout: 3, Try: plan(1), Undo: plan(0), Prio: 7},
	}}
}

// named is a definition of one step.
func named(name string) api.Def {
	return api.Def{Name: name, Steps: []api.Step{{Name: "do", Party: "p", Timeout: 1, Try: plan(0), Undo: plan(0)}}}
}

func define(d api.Def) api.Event {
	return api.Event{Kind: api.EvDefine, Def: d}
}

func start(now, id int, name string) api.Event {
	return api.Event{Kind: api.EvStart, Now: now, Saga: id, Name: name}
}

func act(kind, now, id int) api.Event {
	return api.Event{Kind: kind, Now: now, Saga: id}
}

func answer(now int, r api.Reply) api.Event {
	return api.Event{Kind: api.EvReply, Now: now, Saga: r.Saga, Reply: r}
}

// life is a row of events of each kind, which can be done one by one.
func life() []api.Event {
	return []api.Event{
		define(trip()),
		start(1, 0, "trip"),
		act(api.EvEmit, 1, 0),
		act(api.EvLate, 6, 0),
		act(api.EvEmit, 8, 0),
		answer(9, api.Reply{Saga: 0, Step: 0, Try: 2, Good: true}),
		act(api.EvEmit, 9, 0),
		define(named("a")),
		act(api.EvCancel, 10, 0),
		act(api.EvEmit, 10, 0),
		act(api.EvLate, 15, 0), // it is parked
		act(api.EvRetry, 15, 0),
		act(api.EvEmit, 15, 0),
		act(api.EvLate, 20, 0),
		start(20, 1, "trip"),
		act(api.EvSkip, 21, 0), // it is over
		act(api.EvExpire, 40, 1),
		act(api.EvForget, 41, 0),
		start(50, 2, "trip"),
		act(api.EvEmit, 50, 2),
		answer(51, api.Reply{Saga: 2, Step: 0, Try: 1, Good: true}),
		act(api.EvCancel, 52, 2),
		act(api.EvEmit, 52, 2),
		answer(53, api.Reply{Saga: 2, Step: 0, Undo: true, Try: 1}), // it is parked
		act(api.EvAbandon, 54, 2),
		start(55, 3, "a"),
		act(api.EvEmit, 55, 3),
		answer(56, api.Reply{Saga: 3, Step: 0, Try: 1, Good: true}),
	}
}

// disk is files by their names.
type disk map[string]string

// fill puts those files behind a store's.
func (d disk) fill(t *testing.T, s *store.Store, safe bool) {
	t.Helper()
	for _, name := range slices.Sorted(maps.Keys(d)) {
		if e := s.Append(name, []byte(d[name])); e != api.OK {
			t.Fatal(name, e)
		}
		if safe {
			s.Sync(name)
		}
	}
}

// safe is a store with those files, all of which is safe.
func (d disk) safe(t *testing.T) *store.Store {
	t.Helper()
	s := store.New(room)
	d.fill(t, s, true)
	return s
}

// diskOf is what is on a store.
func diskOf(s *store.Store) disk {
	d := disk{}
	for _, name := range s.Names() {
		b, _ := s.Read(name)
		d[name] = string(b)
	}
	return d
}

// sizes are files' names, each with how many bytes it has.
func (d disk) sizes() string {
	told := ""
	for _, name := range slices.Sorted(maps.Keys(d)) {
		told += fmt.Sprintf(" %s:%d", name, len(d[name]))
	}
	return tell(told)
}

// holds holds what is on a store against files.
func (d disk) holds(t *testing.T, what string, s *store.Store) {
	t.Helper()
	if got := diskOf(s); !maps.Equal(got, d) {
		t.Fatalf("%s: on the store is%s, not%s", what, got.sizes(), d.sizes())
	}
}

// seg and chk are files' names, in the words.
func seg(n int) string {
	return "s" + strconv.Itoa(n)
}

func chk(n int) string {
	return "c" + strconv.Itoa(n)
}

// paper is a journal in the chapter's words, while the power is there.
type paper struct {
	x           api.State
	d           disk // with files that aren't its own
	first, last int
	size        int
}

// log is the names of the log's segments that are there.
func (p *paper) log() []string {
	var l []string
	for n := p.first; n <= p.last; n++ {
		if _, ok := p.d[seg(n)]; ok {
			l = append(l, seg(n))
		}
	}
	return l
}

func (p *paper) bytes() int {
	n := 0
	for _, name := range p.log() {
		n += len(p.d[name])
	}
	return n
}

func (p *paper) do(v api.Event, y api.State) {
	if len(p.d[seg(p.last)]) >= p.size {
		p.last++
	}
	p.d[seg(p.last)] += rec(eventForm(v))
	p.x = y
}

func (p *paper) checkpoint() {
	log := p.log()
	if slices.Contains(log, seg(p.last)) {
		p.last++
	}
	for _, name := range log {
		delete(p.d, name)
	}
	delete(p.d, chk(p.first))
	p.first = p.last
	p.d[chk(p.first)] = rec(stateForm(p.x))
}

// holds holds a journal and its store against the paper one.
func (p *paper) holds(t *testing.T, what string, j *Journal, s *store.Store) {
	t.Helper()
	p.d.holds(t, what, s)
	if x := j.State(); !state.Same(x, p.x) {
		t.Fatalf("%s: the state is %s, not %s", what, tell(x), tell(p.x))
	}
	if n := j.Bytes(); n != p.bytes() {
		t.Fatalf("%s: the log has %d bytes, not %d", what, n, p.bytes())
	}
}

// open opens a store that can be.
func open(t *testing.T, s *store.Store, size int) *Journal {
	t.Helper()
	j, e := Open(s, size, widest)
	if j == nil || e != api.OK {
		t.Fatalf("Open: %d", e)
	}
	return j
}

// doing does events that can be done.
func doing(t *testing.T, j *Journal, row ...api.Event) {
	t.Helper()
	for i, v := range row {
		if _, e := j.Do(v); e != api.OK {
			t.Fatalf("event %d %s: %d", i, tell(v), e)
		}
	}
}

// again is what an opening finds behind a crash that keeps so many bytes of each file.
func again(t *testing.T, s *store.Store, keep int) api.State {
	t.Helper()
	s.Crash()
	reboot(t, s, keep)
	return open(t, s, 100).State()
}

// reboot brings the power again, with so many bytes of each file's rest.
func reboot(t *testing.T, s *store.Store, keep int) {
	t.Helper()
	if e := s.Boot(slices.Repeat([]int{keep}, full)); e != api.OK {
		t.Fatal("Boot:", e)
	}
}

// want holds a state against the one that is due.
func want(t *testing.T, what string, got, x api.State) {
	t.Helper()
	if !state.Same(got, x) {
		t.Fatalf("%s: %s, not %s", what, tell(got), tell(x))
	}
}

// P17.1: a name's number is that of layer 8's names, with c for s.
func TestBase(t *testing.T) {
	for _, row := range []struct {
		name string
		n    int
	}{
		{"c1", 1}, {"c9", 9}, {"c10", 10}, {"c11", 11}, {"c99", 99}, {"c100", 100}, {"c2005", 2005},
		{"c1073741823", top - 1}, {"c1073741824", top}, {"c1073741825", 0}, {"c2147483648", 0}, {"c9999999999", 0},
		{"c9223372036854775807", 0}, {"c9223372036854775808", 0}, {"c18446744073709551617", 0}, {"c" + strings.Repeat("9", 500), 0},
		{"c0", 0}, {"c00", 0}, {"c01", 0}, {"c010", 0}, {"c-1", 0}, {"c+1", 0}, {"c1.0", 0}, {"c1e3", 0}, {"c1_0", 0}, {"c0x1", 0},
		{"c1a", 0}, {"ca1", 0}, {"c1a2", 0}, {"c 1", 0}, {"c1 ", 0}, {" c1", 0}, {"c1\n", 0}, {"c1\x00", 0}, {"c", 0}, {"cc1", 0}, {"c1c", 0}, {"c/", 0}, {"c:", 0}, {"c1/", 0}, {"c1:", 0},
		{"", 0}, {"1", 0}, {"12", 0}, {"s1", 0}, {"s10", 0}, {"s", 0}, {"C1", 0}, {"b1", 0}, {"d1", 0}, {"sc1", 0}, {"cs1", 0},
		{"ç1", 0}, {"\u0441" + "1", 0}, {"c\u0661", 0}, {"c1\u0662", 0}, {"\uff43" + "1", 0}, {"c\uff11", 0}, {"\U0001d4b81", 0}, {"c\u06f1", 0},
		{"\xff1", 0}, {"c\xff", 0}, {"c1\xff", 0}, {"\xe31", 0}, {"c1\xe3", 0}, {"\x80c1", 0}, {"\ufffd1", 0}, {"\x631", 1}, {"c\xc0\xb1", 0},
	} {
		if n := Base(row.name); n != row.n {
			t.Errorf("Base(%s) = %d, not %d", tell(row.name), n, row.n)
		}
	}
}

// P17.1: a name is a number's just if that number's is written like it.
func TestBaseOfDrawnTexts(t *testing.T) {
	m := mixer(17)
	right := 0
	for range 300000 {
		b := []byte("c")
		if m.below(8) == 0 {
			b = []byte(pick(&m, "s", "", "cc", "d", "\xc3", "ç"))
		}
		for range m.below(12) {
			b = append(b, pick(&m, byte('0'), '1', '2', '5', '7', '9')+byte(m.below(40)/39))
		}
		if m.below(20) == 0 {
			b = append(b, byte(m.below(256)))
		}
		name := string(b)
		due, err := strconv.Atoi(strings.TrimPrefix(name, "c"))
		if err != nil || due < 1 || due > top || chk(due) != name {
			due = 0
		}
		if due > 0 {
			right++
		}
		if n := Base(name); n != due {
			t.Fatalf("Base(%s) = %d, not %d", tell(name), n, due)
		}
	}
	if right < 1000 {
		t.Errorf("%d right names", right)
	}
}

// P17.1: what Open refuses, in its order; a store of which nothing is taken stays as it is.
func TestOpenRefused(t *testing.T) {
	d := disk{"c2": rec(stateForm(come(t, api.State{}, define(trip())))), "c1": "torn", "s2": "torn", "s1": "", "s9": "", "notes": "kept"}
	numbers := []int{0, 1, 2, widest - 1, widest, widest + 1, -1, 1 << 32, 1<<32 + 1, lowest, lowest + 1, highest}
	for _, size := range numbers {
		for _, limit := range numbers {
			good := size >= 1 && size <= widest && limit >= 1 && limit <= widest
			if j, e := Open(nil, size, limit); j != nil || e != api.ErrArg {
				t.Errorf("no store, %d, %d: %v %d", size, limit, j, e)
			}
			s := store.New(room)
			j, e := Open(s, size, limit)
			if good != (e == api.OK) || good != (j != nil) || !good && e != api.ErrArg {
				t.Errorf("%d, %d: %v %d", size, limit, j, e)
			}
			if len(s.Names()) > 0 {
				t.Errorf("%d, %d: files %v", size, limit, s.Names())
			}
			s.Crash()
			j, e = Open(s, size, limit)
			if j != nil || good && e != api.ErrDown || !good && e != api.ErrArg {
				t.Errorf("without the power %d, %d: %v %d", size, limit, j, e)
			}
			if good {
				continue
			}
			s = d.safe(t)
			Open(s, size, limit)
			d.holds(t, "refused", s)
		}
	}
	s := d.safe(t)
	s.Crash()
	if j, e := Open(s, 100, 5); j != nil || e != api.ErrDown {
		t.Errorf("without the power: %v %d", j, e)
	}
	reboot(t, s, 0)
	d.holds(t, "without the power", s)
}

// opening is a store's files, and what an opening is to find and to leave.
type opening struct {
	what string
	d    disk
	x    api.State
	left disk
}

// holds holds an opening, and a second one, against what is due.
func (o opening) holds(t *testing.T) {
	t.Helper()
	s := o.d.safe(t)
	for _, times := range []string{"", ", again"} {
		j := open(t, s, 100)
		want(t, o.what+times, j.State(), o.x)
		o.left.holds(t, o.what+times, s)
		size := 0
		for name, b := range o.left {
			if n, err := strconv.Atoi(strings.TrimPrefix(name, "s")); err == nil && n > 0 {
				size += len(b)
			}
		}
		if j.Bytes() != size {
			t.Errorf("%s%s: %d bytes, not %d", o.what, times, j.Bytes(), size)
		}
	}
	s.Crash()
	reboot(t, s, 0)
	o.left.holds(t, o.what+", behind a crash", s)
}

// P17.1: which file is the base, and which ones go.
func TestOpenBase(t *testing.T) {
	one := come(t, api.State{}, life()[:3]...)
	two := come(t, api.State{}, life()[:9]...)
	three := come(t, api.State{}, life()...)
	none := api.State{}
	f1, f2, f3 := rec(stateForm(one)), rec(stateForm(two)), rec(stateForm(three))
	rest := rec(eventForms(life()[3:9]...)...)
	for _, o := range []opening{
		{"nothing", disk{}, none, disk{}},
		{"no file of a checkpoint", disk{"s1": rec(eventForms(life()[:9]...)...)}, two, disk{"s1": rec(eventForms(life()[:9]...)...)}},
		{"two segments", disk{"s1": rec(eventForms(life()[:3]...)...), "s2": rest}, two, disk{"s1": rec(eventForms(life()[:3]...)...), "s2": rest}},
		{"no file, and no segment 1", disk{"s2": rest}, none, disk{}},
		{"one file", disk{"c1": f1}, one, disk{"c1": f1}},
		{"one file of nothing", disk{"c1": rec(stateForm(none))}, none, disk{"c1": rec(stateForm(none))}},
		{"one file of a great number", disk{"c1073741824": f1, "s1073741824": rest}, two, disk{"c1073741824": f1, "s1073741824": rest}},
		{"a file and its segment", disk{"c4": f1, "s4": rest}, two, disk{"c4": f1, "s4": rest}},
		{"two files", disk{"c4": f1, "c5": f2, "s4": rest}, two, disk{"c5": f2}},
		{"numbers, not texts", disk{"c9": f1, "c10": f2, "c8": f3}, two, disk{"c10": f2}},
		{"the greatest is the least text", disk{"c2": f3, "c30": f2, "c100": f1}, one, disk{"c100": f1}},
		{"the older state is the greater number's", disk{"c2": f3, "c3": f1, "s3": rest}, two, disk{"c3": f1, "s3": rest}},
		{"files of other names", disk{"c1": f1, "c": f2, "c02": f2, "c2x": f2, "c1073741825": f2, "C3": f2, "sc4": f2, "notes": "n", "s0": "x", "s": "y", "c-2": f2, "ç7": f2, "shelf": "z"}, one,
			disk{"c1": f1, "c": f2, "c02": f2, "c2x": f2, "c1073741825": f2, "C3": f2, "sc4": f2, "notes": "n", "s0": "x", "s": "y", "c-2": f2, "ç7": f2, "shelf": "z"}},
		{"segments below", disk{"c3": f1, "s1": "junk", "s2": rec("junk"), "s3": rest}, two, disk{"c3": f1, "s3": rest}},
		{"segments below alone", disk{"c3": f1, "s1": rec("junk"), "s2": rest}, one, disk{"c3": f1}},
		{"segments above a gap", disk{"c3": f1, "s3": rest, "s5": rec("junk")}, two, disk{"c3": f1, "s3": rest}},
		{"segments above, none at it", disk{"c3": f1, "s4": rest, "s5": rest}, one, disk{"c3": f1}},
		{"two segments from it on", disk{"c3": f1, "s3": rec(eventForms(life()[3:5]...)...), "s4": rec(eventForms(life()[5:9]...)...), "s2": "", "s6": ""}, two,
			disk{"c3": f1, "s3": rec(eventForms(life()[3:5]...)...), "s4": rec(eventForms(life()[5:9]...)...)}},
		{"ten segments, by numbers", tens(f1, life()[3:9]), two, tens(f1, life()[3:9])},
		{"a torn end", disk{"c3": f1, "s3": rest + "Z", "s4": rest}, two, disk{"c3": f1, "s3": rest}},
		{"a short end", disk{"c3": f1, "s3": rest + rec(eventForm(life()[9]))[:20]}, two, disk{"c3": f1, "s3": rest}},
		{"an empty segment", disk{"c3": f1, "s3": ""}, one, disk{"c3": f1, "s3": ""}},
		{"a base with a log, another without", disk{"c2": f1, "c4": f2, "s2": rest, "s3": rec("junk")}, two, disk{"c4": f2}},
	} {
		o.holds(t)
	}
}

// tens is a base and a log of one event a segment, across 10.
func tens(base string, row []api.Event) disk {
	d := disk{"c7": base}
	for i, v := range row {
		d[seg(7+i)] = rec(eventForm(v))
	}
	return d
}

// P17.1: a file that isn't one whole record with a right state's form is no base, whatever its number; it goes.
func TestOpenNoBase(t *testing.T) {
	one := come(t, api.State{}, life()[:3]...)
	two := come(t, api.State{}, life()[:12]...)
	form := stateForm(two)
	good := rec(form)
	turn := func(s string, at int) string {
		return s[:at] + string([]byte{s[at] ^ 1}) + s[at+1:]
	}
	wrong := func(change func(x *api.State)) string {
		x := come(t, api.State{}, life()[:12]...)
		change(&x)
		return rec(stateForm(x))
	}
	files := map[string]string{
		"nothing": "", "one byte": "\x5a", "a head": good[:9], "cut by one": good[:len(good)-1], "without its last sum": good[:len(good)-4],
		"one byte behind": good + "\x00", "a record's beginning behind": good + "\x5a", "twice": good + good, "an empty record behind": good + rec(""), "a record ahead": rec("") + good, "a byte ahead": "\x00" + good,
		"another mark": turn(good, 0), "a turned length": turn(good, 4), "a turned sum of the length": turn(good, 8), "a turned payload": turn(good, 9), "a payload turned in the middle": turn(good, len(good)/2), "a turned sum": turn(good, len(good)-1),
		"a record of nothing": rec(""), "a record of no form": rec("state"), "the form alone": form, "a form that ends early": rec(form[:len(form)-1]), "a form with a byte behind": rec(form + "\x00"), "an event's form": rec(eventForm(life()[0])), "a definition's form": rec(defForm(trip())),
		"too long":                 "\x5a" + word(65537) + word(crc32.ChecksumIEEE([]byte(word(65537)))) + strings.Repeat("\x00", 65537) + word(crc32.ChecksumIEEE(make([]byte, 65537))),
		"a Next too small":         wrong(func(x *api.State) { x.Next = 0 }),
		"a Next too great":         rec(num(-1) + form[8:]),
		"names that don't rise":    wrong(func(x *api.State) { slices.Reverse(x.Defs) }),
		"a definition twice":       wrong(func(x *api.State) { x.Defs = append(x.Defs, x.Defs[1]) }),
		"a definition that is off": wrong(func(x *api.State) { x.Defs[0].Deadline = -1 }),
		"no step":                  wrong(func(x *api.State) { x.Defs[0].Steps = nil }),
		"a saga of none":           wrong(func(x *api.State) { x.Sagas[0].Def = "b" }),
		"a saga that isn't good":   wrong(func(x *api.State) { x.Sagas[0].Phase = 6 }),
		"a flag that is none":      rec(strings.Replace(form, "\x00"+num(15, 0), "\x02"+num(15, 0), 1)),
		"65 definitions":           wrong(func(x *api.State) { *x = api.State{Defs: many(65)} }),
	}
	if files["a flag that is none"] == good {
		t.Fatal("no flag")
	}
	for _, what := range slices.Sorted(maps.Keys(files)) {
		b := files[what]
		older := rec(stateForm(one))
		rest := rec(eventForms(life()[3:12]...)...)
		opening{what + ", above a base", disk{"c3": older, "c4": b, "s3": rest}, two, disk{"c3": older, "s3": rest}}.holds(t)
		opening{what + ", below a base", disk{"c5": older, "c4": b, "s5": rest}, two, disk{"c5": older, "s5": rest}}.holds(t)
		opening{what + ", alone", disk{"c1": b, "s1": rec(eventForms(life()[:3]...)...)}, one, disk{"s1": rec(eventForms(life()[:3]...)...)}}.holds(t)
		opening{what + ", alone, above 1", disk{"c4": b, "s4": rest}, api.State{}, disk{}}.holds(t)
		opening{what + ", several", disk{"c4": b, "c1": older, "c9": b, "c20": b, "c3": b, "notes": b}, one, disk{"c1": older, "notes": b}}.holds(t)
	}
	opening{"64 definitions", disk{"c1": rec(stateForm(api.State{Defs: many(64)}))}, api.State{Defs: many(64)}, disk{"c1": rec(stateForm(api.State{Defs: many(64)}))}}.holds(t)
}

// many are so many definitions, by rising names.
func many(n int) []api.Def {
	var l []api.Def
	for i := range n {
		l = append(l, named(string(rune('A'+i/26))+string(rune('a'+i%26))))
	}
	return l
}

// P17.1: a payload that is no right event's form.
func TestOpenWrongPayload(t *testing.T) {
	good := eventForms(life()[:6]...)
	var wrong []string
	for _, form := range good {
		wrong = append(wrong, form[:len(form)-1], form+"\x00", form+form, form[1:], num(11)+form[8:], form[:8]+num(1<<40+1)+form[16:], form[:8]+num(-1)+form[16:], form[:16]+num(-1)+form[24:])
	}
	wrong = append(wrong, "", "event", stateForm(api.State{}), defForm(trip()), num(0, 0, 1)+defForm(trip()), num(0, 0, 0)+defForm(api.Def{Name: "none"}), num(1, 0, 0)+text(""), num(1, 0, 0)+text("a b"), num(1, 0, 0)+text(strings.Repeat("x", 65)), num(3, 0, 0, 0, 0)+"\x02"+num(1)+"\x00")
	for i, form := range wrong {
		for at := range len(good) + 1 {
			row := slices.Insert(slices.Clone(good), at, form)
			for cut := range 3 {
				d := disk{"s1": rec(row...)}
				if cut > 0 {
					d = disk{"s1": rec(row[:cut]...), "s2": rec(row[cut:]...), "c9": "torn"}
				}
				if j, e := Open(d.safe(t), 100, 5); j != nil || e != api.ErrForm {
					t.Fatalf("form %d at %d, cut %d: %v %d", i, at, cut, j, e)
				}
			}
		}
	}
	base := rec(stateForm(come(t, api.State{}, life()[:3]...)))
	for _, d := range []disk{{"c3": base, "s3": rec("x")}, {"c3": base, "s3": rec(eventForm(life()[3])), "s4": rec(eventForm(life()[4]), "x")}} {
		if j, e := Open(d.safe(t), 100, 5); j != nil || e != api.ErrForm {
			t.Errorf("behind a base: %v %d", j, e)
		}
	}
	// Of those that are never read nothing is told.
	opening{"wrong ones that go", disk{"c3": base, "s1": rec("x"), "s2": rec("x"), "s3": rec(eventForm(life()[3])) + "torn" + rec("x"), "s4": rec("x")}, come(t, api.State{}, life()[:4]...), disk{"c3": base, "s3": rec(eventForm(life()[3]))}}.holds(t)
}

// refusal is an event that can't be done in a state, and layer 16's error.
type refusal struct {
	what string
	row  []api.Event // what was done ahead of it
	v    api.Event
	e    api.Errno
}

// refusals are one of each error of layer 16's events that are right, under a limit of 2.
func refusals() []refusal {
	var defs []api.Event
	for _, d := range many(64) {
		defs = append(defs, define(d))
	}
	l := life()
	over := api.Event{Kind: api.EvCancel, Now: 41, Saga: 0}
	return []refusal{
		{"defined twice", l[:1], l[0], api.ErrThere},
		{"defined twice, otherwise", l[:1], define(named("trip")), api.ErrThere},
		{"64 definitions, and one of them", defs, define(many(64)[63]), api.ErrThere},
		{"a 65th definition", defs, define(trip()), api.ErrFull},
		{"started without a definition", nil, start(1, 0, "trip"), api.ErrNone},
		{"started of another name", l[:1], start(1, 0, "trap"), api.ErrNone},
		{"started as another number", l[:1], start(1, 1, "trip"), api.ErrArg},
		{"started as a number that is there", l[:2], start(1, 0, "trip"), api.ErrArg},
		{"a saga above the limit", []api.Event{l[0], start(1, 0, "trip"), start(1, 1, "trip")}, start(1, 2, "trip"), api.ErrFull},
		{"emitted by none", l[:1], act(api.EvEmit, 1, 0), api.ErrNone},
		{"emitted by another one", l[:2], act(api.EvEmit, 1, 1), api.ErrNone},
		{"emitted ahead of its time", l[:2], act(api.EvEmit, 0, 0), api.ErrState},
		{"emitted twice", l[:3], act(api.EvEmit, 1, 0), api.ErrState},
		{"replied to none", l[:1], answer(1, api.Reply{Saga: 0, Try: 1}), api.ErrNone},
		{"replied of another one", l[:3], api.Event{Kind: api.EvReply, Now: 1, Saga: 0, Reply: api.Reply{Saga: 1, Try: 1}}, api.ErrNone},
		{"replied too late", l[:4], answer(7, api.Reply{Saga: 0, Try: 1}), api.ErrLate},
		{"late ahead of its time", l[:3], act(api.EvLate, 5, 0), api.ErrState},
		{"late without a try", l[:2], act(api.EvLate, 50, 0), api.ErrState},
		{"at its end ahead of it", l[:2], act(api.EvExpire, 20, 0), api.ErrState},
		{"cancelled twice", l[:9], act(api.EvCancel, 10, 0), api.ErrState},
		{"retried, not parked", l[:9], act(api.EvRetry, 10, 0), api.ErrState},
		{"skipped, not parked", l[:9], act(api.EvSkip, 10, 0), api.ErrState},
		{"abandoned, not parked", l[:9], act(api.EvAbandon, 10, 0), api.ErrState},
		{"over", l[:16], over, api.ErrOver},
		{"forgotten, not over", l[:9], act(api.EvForget, 10, 0), api.ErrState},
		{"forgotten twice", l[:18], act(api.EvForget, 41, 0), api.ErrNone},
	}
}

// P17.1: an event that can't be done; with one at fault behind it, the first one is told.
func TestOpenWrongEvent(t *testing.T) {
	for _, r := range refusals() {
		forms := append(eventForms(r.row...), eventForm(r.v))
		for cut := range len(forms) {
			d := disk{"s1": rec(forms...)}
			if cut > 0 {
				d = disk{"c2": rec(stateForm(come(t, api.State{}, r.row[:cut]...))), "s2": rec(forms[cut:]...)}
			}
			if j, e := Open(d.safe(t), 100, 2); j != nil || e != api.ErrState {
				t.Fatalf("%s, %d in the base: %v %d", r.what, cut, j, e)
			}
		}
		d := disk{"s1": rec(forms...) + rec("no form")}
		if j, e := Open(d.safe(t), 100, 2); j != nil || e != api.ErrState {
			t.Errorf("%s, and no form behind it: %v %d", r.what, j, e)
		}
		d = disk{"s1": rec("no form") + rec(forms...)}
		if j, e := Open(d.safe(t), 100, 2); j != nil || e != api.ErrForm {
			t.Errorf("%s, and no form ahead of it: %v %d", r.what, j, e)
		}
	}
}

// P17.1: the limit is of the events that are done at an opening, not of the base.
func TestOpenLimit(t *testing.T) {
	row := []api.Event{define(trip()), start(1, 0, "trip"), start(2, 1, "trip"), start(3, 2, "trip")}
	x := come(t, api.State{}, row...)
	for limit := 1; limit < 6; limit++ {
		j, e := Open(disk{"s1": rec(eventForms(row...)...)}.safe(t), 100, limit)
		if limit < 3 && (j != nil || e != api.ErrState) || limit >= 3 && e != api.OK {
			t.Errorf("log, limit %d: %d", limit, e)
		}
		s := disk{"c4": rec(stateForm(x)), "s4": rec(eventForm(act(api.EvEmit, 4, 2)))}.safe(t)
		j, e = Open(s, 100, limit)
		if e != api.OK {
			t.Fatalf("base, limit %d: %d", limit, e)
		}
		_, e = j.Do(start(5, 3, "trip"))
		if limit <= 3 && e != api.ErrFull || limit > 3 && e != api.OK {
			t.Errorf("base, limit %d: Do %d", limit, e)
		}
	}
}

// P17.1: wherever the power goes, an opening is ErrDown, and the next one finds and leaves what it would have.
func TestOpenPower(t *testing.T) {
	l := life()
	rest := rec(eventForms(l[3:9]...)...)
	for _, d := range []disk{
		{"c2": rec(stateForm(come(t, api.State{}, l[:1]...))), "c3": rec(stateForm(come(t, api.State{}, l[:3]...))), "c5": "torn", "c12": rec("x"), "s1": rec("x"), "s2": rec(eventForms(l[1:3]...)...), "s3": rest + "torn", "s4": rec("x"), "s6": "", "notes": "n"},
		{"c5": "torn", "s1": rec(eventForms(l[:5]...)...), "s2": rec(eventForms(l[5:9]...)...) + "\x5a", "s4": ""},
		{"c5": "torn", "c6": "torn", "s2": rest, "s3": rest},
		{"c7": rec(stateForm(come(t, api.State{}, l[:3]...))), "s7": rest, "notes": "n"},
		{"c1": rec(stateForm(api.State{})), "c2": rec(stateForm(come(t, api.State{}, l...)))},
		{"c9": rec(stateForm(come(t, api.State{}, l[:3]...))), "s8": rec("x"), "s9": rest, "s10": "torn", "s11": "", "c10": ""},
	} {
		plain := d.safe(t)
		x := open(t, plain, 100).State()
		left := diskOf(plain)
		for _, keep := range []int{0, 1, all} {
			for n := 1; ; n++ {
				s := d.safe(t)
				s.Fuse(n)
				j, e := Open(s, 100, widest)
				if e == api.OK {
					s.Fuse(0)
					want(t, "with the power", j.State(), x)
					left.holds(t, "with the power", s)
					break
				}
				if j != nil || e != api.ErrDown || !s.Down() || n > 20 {
					t.Fatalf("%s, deed %d: %v %d", d.sizes(), n, j, e)
				}
				reboot(t, s, keep)
				want(t, fmt.Sprintf("deed %d, kept %d", n, keep), open(t, s, 100).State(), x)
				left.holds(t, fmt.Sprintf("deed %d, kept %d", n, keep), s)
			}
		}
	}
}

// P17.1, P17.4: with nothing to let go an opening does no deed.
func TestOpenDoesNothing(t *testing.T) {
	l := life()
	for _, d := range []disk{{}, {"s1": rec(eventForms(l...)...)}, {"c1": rec(stateForm(come(t, api.State{}, l...)))}, {"c3": rec(stateForm(come(t, api.State{}, l[:3]...))), "s3": rec(eventForms(l[3:9]...)...), "s4": rec(eventForms(l[9:]...)...), "notes": "n"}} {
		s := d.safe(t)
		s.Fuse(1)
		if _, e := Open(s, 100, 5); e != api.OK {
			t.Errorf("%s: %d", d.sizes(), e)
		}
		s.Fuse(0)
		d.holds(t, "opened", s)
	}
}

// P17.4: what stands for the base goes only once that is safe, whoever wrote it.
func TestOpenLooseBase(t *testing.T) {
	l := life()
	older, newer := come(t, api.State{}, l[:3]...), come(t, api.State{}, l[:9]...)
	for what, d := range map[string]disk{
		"a base":   {"c1": rec(stateForm(older))},
		"a log":    {"s1": rec(eventForms(l[:3]...)...)},
		"both":     {"c1": rec(stateForm(come(t, api.State{}, l[:1]...))), "s1": rec(eventForms(l[1:3]...)...)},
		"two logs": {"s1": rec(eventForms(l[:2]...)...), "s2": rec(eventForm(l[2]))},
	} {
		for n := 0; n < 8; n++ {
			s := d.safe(t)
			disk{"c3": rec(stateForm(newer))}.fill(t, s, false)
			s.Fuse(n)
			_, e := Open(s, 100, widest)
			s.Crash()
			reboot(t, s, 0)
			got := open(t, s, 100).State()
			if e == api.OK || n > 1 {
				want(t, fmt.Sprintf("%s, deed %d", what, n), got, newer)
			} else {
				want(t, fmt.Sprintf("%s, deed %d", what, n), got, older)
			}
		}
	}
}

// P17.2: an event of each kind is done, with its command, and its form stands behind the log.
func TestDo(t *testing.T) {
	commands := map[int]api.Command{
		2:  {Saga: 0, Step: 0, Try: 1, Party: "hotel", Key: "0/book/do"},
		4:  {Saga: 0, Step: 0, Try: 2, Party: "hotel", Key: "0/book/do"},
		6:  {Saga: 0, Step: 1, Try: 1, Party: "bank", Key: "0/pay/do"},
		9:  {Saga: 0, Step: 0, Undo: true, Try: 1, Party: "hotel", Key: "0/book/undo"},
		12: {Saga: 0, Step: 0, Undo: true, Try: 1, Party: "hotel", Key: "0/book/undo"},
		19: {Saga: 2, Step: 0, Try: 1, Party: "hotel", Key: "2/book/do"},
		22: {Saga: 2, Step: 0, Undo: true, Try: 1, Party: "hotel", Key: "2/book/undo"},
		26: {Saga: 3, Step: 0, Try: 1, Party: "p", Key: "3/do/do"},
	}
	kinds := map[int]int{}
	for _, size := range []int{1, 37, 38, 100, 300, 1000, widest} {
		s := disk{"notes": "n"}.safe(t)
		j := open(t, s, size)
		p := &paper{d: disk{"notes": "n"}, first: 1, last: 1, size: size}
		p.holds(t, "nothing", j, s)
		for i, v := range life() {
			kinds[v.Kind]++
			y, due, e := state.Do(p.x, v, 5)
			if e != api.OK || due != commands[i] {
				t.Fatalf("event %d: %d %s", i, e, tell(due))
			}
			c, e := j.Do(v)
			if e != api.OK || c != commands[i] {
				t.Fatalf("size %d, event %d: %d %s, not %s", size, i, e, tell(c), tell(commands[i]))
			}
			p.do(v, y)
			p.holds(t, fmt.Sprintf("size %d, event %d", size, i), j, s)
			want(t, "opened", open(t, s, size).State(), p.x)
		}
		p.d.holds(t, "opened", s)
	}
	if len(kinds) != 11 {
		t.Errorf("kinds %v", kinds)
	}
}

// P17.2: the log's bytes, to the last one; a segment of size bytes takes no more.
func TestDoBytes(t *testing.T) {
	v := start(1, 0, "a")
	first := num(0, 0, 0) + text("a") + num(0, 1) + text("do") + text("p") + num(1) + num(0, 2, 2, 8) + num(0, 2, 2, 8) + num(0)
	second := num(1, 1, 0, 1) + "a"
	size := len(first) + bare
	for _, more := range []int{-1, 0, 1, 46, 47} {
		s := store.New(room)
		j := open(t, s, size+more)
		doing(t, j, define(named("a")), v, act(api.EvEmit, 1, 0))
		third := rec(num(2, 1, 0))
		due := disk{"s1": rec(first), "s2": rec(second) + third}
		if more > 0 && more <= 46 {
			due = disk{"s1": rec(first) + rec(second), "s2": third}
		} else if more > 46 {
			due = disk{"s1": rec(first) + rec(second) + third}
		}
		due.holds(t, fmt.Sprintf("size %d more", more), s)
		if j.Bytes() != size+46+37 {
			t.Errorf("%d bytes", j.Bytes())
		}
	}
}

// P17.2: with layer 16's error nothing is done, and nothing is appended.
func TestDoRefused(t *testing.T) {
	l := life()
	row := refusals()
	for _, v := range []api.Event{
		{Kind: 11}, {Kind: -1}, {Kind: lowest}, {Kind: highest},
		act(api.EvEmit, -1, 0), act(api.EvEmit, 1<<40+1, 0), act(api.EvEmit, 8, -1), act(api.EvEmit, lowest, lowest), act(api.EvForget, highest, highest),
		{Kind: api.EvEmit, Now: 8, Name: "trip"}, {Kind: api.EvEmit, Now: 8, Def: trip()}, {Kind: api.EvEmit, Now: 8, Reply: api.Reply{Try: 1}},
		{Kind: api.EvDefine, Saga: 1, Def: named("a")}, {Kind: api.EvDefine}, {Kind: api.EvDefine, Name: "a", Def: named("a")}, {Kind: api.EvDefine, Def: named("a b")},
		{Kind: api.EvStart, Now: 8, Saga: 1}, start(8, 1, "tr/ip"), start(8, 1, "trip\xff"), {Kind: api.EvStart, Now: 8, Saga: 1, Name: "trip", Def: trip()},
		answer(8, api.Reply{Try: -1}), answer(8, api.Reply{Step: -1}), {Kind: api.EvReply, Now: 8, Reply: api.Reply{Saga: -1}}, {Kind: api.EvReply, Now: 8, Name: "trip"},
	} {
		row = append(row, refusal{"no right event " + tell(v), l[:4], v, api.ErrForm})
	}
	for _, r := range row {
		for _, size := range []int{1, widest} {
			s := disk{"notes": "n"}.safe(t)
			j, _ := Open(s, size, 2)
			doing(t, j, r.row...)
			x, d, n := j.State(), diskOf(s), j.Bytes()
			for range 2 {
				c, e := j.Do(r.v)
				if c != (api.Command{}) || e != r.e {
					t.Fatalf("%s: %s %d, not %d", r.what, tell(c), e, r.e)
				}
			}
			want(t, r.what, j.State(), x)
			d.holds(t, r.what, s)
			if j.Bytes() != n {
				t.Errorf("%s: %d bytes, not %d", r.what, j.Bytes(), n)
			}
			// Layer 16's errors come ahead of the log's.
			s.Crash()
			if _, e := j.Do(r.v); e != r.e {
				t.Errorf("%s, without the power: %d", r.what, e)
			}
			want(t, r.what+", without the power", j.State(), x)
			reboot(t, s, 0)
			if k := open(t, s, size); j.Bytes() != k.Bytes() {
				t.Errorf("%s: %d bytes, not %d", r.what, j.Bytes(), k.Bytes())
			}
		}
	}
	j, _ := Open(store.New(room), 100, 2)
	doing(t, j, l[0], start(1, 0, "trip"), start(1, 1, "trip"))
	if _, e := j.Do(start(1, 2, "trip")); e != api.ErrFull {
		t.Errorf("above the limit: %d", e)
	}
	doing(t, j, act(api.EvCancel, 1, 0), act(api.EvForget, 1, 0), start(1, 2, "trip"))
}

// P17.2: no event is too long for a record: the greatest definition has fewer bytes.
func TestDoLargest(t *testing.T) {
	d := api.Def{Name: strings.Repeat("\U0001d4b8", 64), Deadline: 1 << 40}
	for i := range 32 {
		name := strings.Repeat("\U0001d4b8", 63)
		d.Steps = append(d.Steps, api.Step{Name: name + string(rune(0x1d400+i)), Party: name + "\U0001d4b8", Timeout: 1, Try: plan(0), Undo: plan(0)})
	}
	s := store.New(room)
	j := open(t, s, 100)
	doing(t, j, define(d), start(1, 0, d.Name))
	if n := j.Bytes(); n < 19000 || n > api.MaxRecord {
		t.Errorf("%d bytes", n)
	}
	want(t, "opened", open(t, s, 100).State(), j.State())
}

// P17.2: without room for a record nothing is done; with room again the event is done as if it hadn't been tried.
func TestDoWithoutSpace(t *testing.T) {
	for _, size := range []int{1, 300, widest} {
		for _, foreign := range []int{0, 1, 7, 40} {
			l := life()
			need := 0
			for _, v := range l[:5] {
				need += len(rec(eventForm(v)))
			}
			s := store.New(need + foreign - 1)
			if foreign > 0 {
				s.Append("notes", make([]byte, foreign))
			}
			j := open(t, s, size)
			doing(t, j, l[:4]...)
			x, d := j.State(), diskOf(s)
			for range 3 {
				c, e := j.Do(l[4])
				if c != (api.Command{}) || e != api.ErrSpace {
					t.Fatalf("size %d: %s %d", size, tell(c), e)
				}
			}
			want(t, "without room", j.State(), x)
			d.holds(t, "without room", s)
			if e := j.Sync(); e != api.OK {
				t.Errorf("Sync: %d", e)
			}
			if foreign == 0 {
				want(t, "behind a crash", again(t, s, 0), x)
				continue
			}
			s.Truncate("notes", foreign-1)
			doing(t, j, l[4])
			whole := open(t, store.New(room), size)
			doing(t, whole, l[:5]...)
			want(t, "with room again", j.State(), whole.State())
			delete(d, "notes")
			s.Remove("notes")
			due := diskOf(whole.store)
			due.holds(t, "with room again", s)
			want(t, "opened", open(t, s, size).State(), whole.State())
		}
	}
}

// crowd puts so many files beside a store's.
func crowd(s *store.Store, n int) {
	for i := range n {
		s.Append("x"+strconv.Itoa(i), nil)
	}
}

// P17.2: with as many files as a store may have, an event that asks for one more isn't done.
func TestDoWithoutFiles(t *testing.T) {
	l := life()
	for done := range 4 {
		s := store.New(room)
		j := open(t, s, 1) // each event is in a segment of its own
		doing(t, j, l[:done]...)
		crowd(s, full-done)
		x, d := j.State(), diskOf(s)
		for range 3 {
			c, e := j.Do(l[done])
			if c != (api.Command{}) || e != api.ErrFull {
				t.Fatalf("%d: %s %d", done, tell(c), e)
			}
		}
		want(t, "too many files", j.State(), x)
		d.holds(t, "too many files", s)
		if e := j.Sync(); e != api.OK {
			t.Errorf("Sync: %d", e)
		}
		want(t, "opened", open(t, s, 1).State(), x)
		s.Remove("x0")
		doing(t, j, l[done])
		delete(d, "x0")
		d[seg(done+1)] = rec(eventForm(l[done]))
		d.holds(t, "one file fewer", s)
	}
	s := store.New(room)
	j := open(t, s, widest)
	doing(t, j, l[0])
	crowd(s, full-1)
	doing(t, j, l[1:]...) // these need no more files
	want(t, "one segment", open(t, s, 1).State(), j.State())
}

// P17.2: the log's last number is layer 8's.
func TestLastNumber(t *testing.T) {
	l := life()
	x := come(t, api.State{}, l[:3]...)
	d := disk{chk(top): rec(stateForm(x)), seg(top): rec(eventForm(l[3]))}
	s := d.safe(t)
	j := open(t, s, 1)
	if _, e := j.Do(l[4]); e != api.ErrFull {
		t.Errorf("Do: %d", e)
	}
	if e := j.Checkpoint(); e != api.ErrFull {
		t.Errorf("Checkpoint: %d", e)
	}
	d.holds(t, "no number is left", s)
	want(t, "no number is left", j.State(), come(t, x, l[3]))
	j = open(t, s, 100)
	doing(t, j, l[4])
	if e := j.Checkpoint(); e != api.ErrFull {
		t.Errorf("Checkpoint: %d", e)
	}
	if e := j.Sync(); e != api.OK {
		t.Errorf("Sync: %d", e)
	}
	want(t, "opened", again(t, s, 0), come(t, x, l[3:5]...))
	s = disk{chk(top): rec(stateForm(x))}.safe(t)
	j = open(t, s, 1)
	if e := j.Checkpoint(); e != api.OK {
		t.Errorf("Checkpoint: %d", e)
	}
	doing(t, j, l[3])
	want(t, "opened", open(t, s, 1).State(), come(t, x, l[3]))
	s = disk{chk(top - 1): rec(stateForm(x)), seg(top - 1): rec(eventForm(l[3]))}.safe(t)
	j = open(t, s, 1)
	if e := j.Checkpoint(); e != api.OK {
		t.Errorf("Checkpoint: %d", e)
	}
	disk{chk(top): rec(stateForm(come(t, x, l[3])))}.holds(t, "the last checkpoint", s)
}

// P17.2: without the power nothing is done; with it again the event is done as if it hadn't been tried.
func TestDoWithoutPower(t *testing.T) {
	l := life()
	for _, size := range []int{1, 60, widest} {
		for done := range len(l) {
			s := store.New(room)
			j := open(t, s, size)
			doing(t, j, l[:done]...)
			j.Sync()
			x, d := j.State(), diskOf(s)
			s.Crash()
			for range 2 {
				if c, e := j.Do(l[done]); c != (api.Command{}) || e != api.ErrDown {
					t.Fatalf("event %d: %s %d", done, tell(c), e)
				}
			}
			if n := j.Bytes(); n != 0 {
				t.Errorf("%d bytes without the power", n)
			}
			want(t, "without the power", j.State(), x)
			reboot(t, s, all)
			d.holds(t, "behind the crash", s)
			doing(t, j, l[done])
			want(t, "opened", open(t, s, size).State(), j.State())
		}
	}
}

// P17.2: an event at which the power goes isn't done; whatever is left of it, the next one is done as if it hadn't been tried. An opening may find it.
func TestDoPowerGoes(t *testing.T) {
	l := life()
	for _, size := range []int{1, 60, 300, widest} {
		for done := range len(l) {
			for _, keep := range []int{0, 1, bare, 36, all} {
				for n := 1; n < 4; n++ {
					s := store.New(room)
					j := open(t, s, size)
					doing(t, j, l[:done]...)
					if e := j.Sync(); e != api.OK {
						t.Fatal(e)
					}
					x := j.State()
					s.Fuse(n)
					c, e := j.Do(l[done])
					if e == api.OK {
						break
					}
					if c != (api.Command{}) || e != api.ErrDown || !s.Down() || n == 3 {
						t.Fatalf("event %d: %s %d", done, tell(c), e)
					}
					want(t, "the power went", j.State(), x)
					reboot(t, s, keep)
					got := open(t, s, size).State()
					if next := come(t, x, l[done]); keep != all || !state.Same(got, next) {
						want(t, "opened", got, x)
					}
				}
			}
		}
	}
}

// P17.4: a journal that is used on behind a crash that lost none of its events does so as if it hadn't been: an event that wasn't done is cut off.
func TestUsedOn(t *testing.T) {
	l := life()
	for _, size := range []int{1, 60, 300, widest} {
		for done := range len(l) - 1 {
			for _, keep := range []int{0, 1, bare, 36, all} {
				for n := 1; n < 3; n++ {
					s := store.New(room)
					j := open(t, s, size)
					doing(t, j, l[:done]...)
					if done%3 == 1 {
						j.Checkpoint()
					}
					j.Sync()
					s.Fuse(n)
					if _, e := j.Do(l[done]); e == api.OK {
						s.Crash() // it went behind that one
						reboot(t, s, all)
						doing(t, j, l[done+1])
						want(t, "used on", open(t, s, size).State(), come(t, api.State{}, l[:done+2]...))
						continue
					}
					reboot(t, s, keep)
					switch done % 4 {
					case 0:
						if e := j.Checkpoint(); e != api.OK {
							t.Fatalf("Checkpoint: %d", e)
						}
						want(t, "used on", again(t, s, 0), come(t, api.State{}, l[:done]...))
						continue
					case 1:
						if e := j.Sync(); e != api.OK {
							t.Fatalf("Sync: %d", e)
						}
						want(t, "opened", open(t, s, size).State(), come(t, api.State{}, l[:done]...))
					}
					doing(t, j, l[done:]...)
					want(t, "used on", j.State(), come(t, api.State{}, l...))
					want(t, "opened", open(t, s, size).State(), j.State())
				}
			}
		}
	}
}

// P17.4: a journal some of whose events were lost does nothing more, so that none stands behind the gap; the next opening finds what is left.
func TestUsedOnBehindALoss(t *testing.T) {
	l := life()
	for _, size := range []int{1, 60, 300, widest} {
		for safe := range 8 {
			for _, keep := range []int{0, 1, bare, 36} {
				s := store.New(room)
				j := open(t, s, size)
				doing(t, j, l[:safe]...)
				j.Sync()
				if safe%2 == 1 {
					j.Checkpoint()
				}
				doing(t, j, l[safe:11]...)
				x := j.State()
				s.Crash()
				reboot(t, s, keep)
				d := diskOf(s)
				for range 2 {
					if c, e := j.Do(l[11]); c != (api.Command{}) || e != api.ErrDown {
						t.Fatalf("Do: %s %d", tell(c), e)
					}
					if e := j.Sync(); e != api.ErrDown {
						t.Fatalf("Sync: %d", e)
					}
					if e := j.Checkpoint(); e != api.ErrDown {
						t.Fatalf("Checkpoint: %d", e)
					}
				}
				want(t, "its state", j.State(), x)
				d.holds(t, "behind a loss", s)
				got := open(t, s, size).State()
				found := slices.ContainsFunc([]int{0, 1, 2, 3, 4, 5, 6, 7, 8, 9, 10}, func(n int) bool {
					return n >= safe && state.Same(got, come(t, api.State{}, l[:n]...))
				})
				if !found {
					t.Fatalf("size %d, %d safe, kept %d: %s", size, safe, keep, tell(got))
				}
			}
		}
	}
}

// P17.2: behind a Sync that answered OK a crash that keeps nothing loses nothing.
func TestSync(t *testing.T) {
	l := life()
	for _, size := range []int{1, 60, 300, widest} {
		for done := range len(l) + 1 {
			s := store.New(room)
			j := open(t, s, size)
			for i, v := range l[:done] {
				doing(t, j, v)
				if i%5 == 4 {
					j.Sync()
				}
			}
			for range 2 {
				if e := j.Sync(); e != api.OK {
					t.Fatalf("Sync: %d", e)
				}
			}
			d := diskOf(s)
			s.Crash()
			for range 2 {
				if e := j.Sync(); e != api.ErrDown {
					t.Fatalf("Sync without the power: %d", e)
				}
			}
			reboot(t, s, 0)
			d.holds(t, "behind a crash", s)
			j = open(t, s, size)
			want(t, "behind a crash", j.State(), come(t, api.State{}, l[:done]...))
			d.holds(t, "opened", s)
			if e := j.Sync(); e != api.OK {
				t.Fatalf("Sync: %d", e)
			}
			if e := j.Checkpoint(); e != api.OK || j.Sync() != api.OK {
				t.Fatalf("Checkpoint: %d", e)
			}
			s.Crash()
			if e := j.Sync(); e != api.ErrDown {
				t.Fatalf("Sync without the power: %d", e)
			}
			reboot(t, s, 0)
			want(t, "behind a checkpoint", open(t, s, size).State(), come(t, api.State{}, l[:done]...))
		}
	}
}

// P17.2: a Sync in which the power goes is ErrDown; without it what wasn't safe isn't.
func TestSyncPowerGoes(t *testing.T) {
	l := life()
	for _, keep := range []int{0, 1, 40, all} {
		s := store.New(room)
		j := open(t, s, widest)
		s.Fuse(1)
		if e := j.Sync(); e != api.OK || s.Down() {
			t.Fatalf("nothing to make safe: %d", e)
		}
		s.Fuse(0)
		doing(t, j, l[:1]...)
		if e := j.Sync(); e != api.OK {
			t.Fatal(e)
		}
		doing(t, j, l[1:3]...)
		s.Fuse(1)
		if e := j.Sync(); e != api.ErrDown || !s.Down() {
			t.Fatalf("the power goes: %d", e)
		}
		want(t, "its state", j.State(), come(t, api.State{}, l[:3]...))
		reboot(t, s, keep)
		n := map[int]int{0: 1, 1: 1, 40: 1, all: 3}[keep]
		want(t, "opened", open(t, s, 300).State(), come(t, api.State{}, l[:n]...))
	}
	s := store.New(room)
	s.Append("notes", []byte("n"))
	j := open(t, s, 300)
	doing(t, j, l[0])
	j.Sync()
	s.Crash()
	reboot(t, s, 0)
	if len(s.Names()) != 1 {
		t.Errorf("files that aren't the journal's were made safe: %v", s.Names())
	}
}

// spoil overwrites all of a state, and what may lie behind its lists.
func spoil(x api.State) {
	for _, d := range x.Defs[:cap(x.Defs)] {
		for i := range d.Steps[:cap(d.Steps)] {
			d.Steps[:cap(d.Steps)][i] = api.Step{Name: "spoilt"}
		}
	}
	clear(x.Defs[:cap(x.Defs)])
	clear(x.Sagas[:cap(x.Sagas)])
}

// P17.2, R4: a state that was answered is memory of its own, and so is what was handed in.
func TestMemory(t *testing.T) {
	l := life()
	s := store.New(room)
	j := open(t, s, 300)
	var told []api.State
	for i, v := range l {
		v.Def.Steps = append(make([]api.Step, 0, 9), v.Def.Steps...)
		if _, e := j.Do(v); e != api.OK {
			t.Fatal(e)
		}
		for k := range v.Def.Steps[:cap(v.Def.Steps)] {
			v.Def.Steps[:cap(v.Def.Steps)][k] = api.Step{Name: "spoilt"}
		}
		spoil(j.State())
		want(t, "spoilt", j.State(), come(t, api.State{}, l[:i+1]...))
		x := j.State()
		x.Defs = append(x.Defs, named("spoilt"))
		x.Sagas = append(x.Sagas, api.Saga{ID: 77})
		for k := range x.Defs {
			x.Defs[k].Steps = append(x.Defs[k].Steps, api.Step{Name: "spoilt"})
		}
		want(t, "grown", j.State(), come(t, api.State{}, l[:i+1]...))
		told = append(told, j.State())
		if i == 12 {
			j.Checkpoint()
		}
	}
	for i, x := range told {
		want(t, "told earlier", x, come(t, api.State{}, l[:i+1]...))
	}
	k := open(t, s, 300)
	spoil(k.State())
	want(t, "opened", k.State(), j.State())
	if e := k.Checkpoint(); e != api.OK {
		t.Fatal(e)
	}
	want(t, "opened again", open(t, s, 300).State(), j.State())
}

// P17.3: the names and bytes of files behind a checkpoint, of nothing on, twice in a row, behind events in one segment and several, behind an opening.
func TestCheckpoint(t *testing.T) {
	l := life()
	for _, size := range []int{1, 37, 60, 300, 1000, widest} {
		for _, every := range []int{1, 2, 5, 9, len(l)} {
			s := disk{"notes": "n", "c0": "c", "s": "s"}.safe(t)
			j := open(t, s, size)
			p := &paper{d: disk{"notes": "n", "c0": "c", "s": "s"}, first: 1, last: 1, size: size}
			check := func(what string) {
				if e := j.Checkpoint(); e != api.OK {
					t.Fatalf("%s: %d", what, e)
				}
				p.checkpoint()
				p.holds(t, what, j, s)
				if j.Bytes() != 0 || len(p.log()) != 0 {
					t.Fatalf("%s: %d bytes", what, j.Bytes())
				}
			}
			check("of nothing")
			check("of nothing, again")
			for i, v := range l {
				doing(t, j, v)
				p.do(v, come(t, p.x, v))
				p.holds(t, fmt.Sprintf("event %d", i), j, s)
				if i%every != every-1 {
					continue
				}
				if i%2 == 0 {
					j = open(t, s, size)
					p.holds(t, "opened", j, s)
				}
				check(fmt.Sprintf("behind event %d", i))
				if i%3 == 0 {
					check("twice in a row")
					check("three times in a row")
				}
				s.Crash()
				reboot(t, s, 0)
				if i%4 < 3 {
					j = open(t, s, size)
				}
				p.holds(t, "behind a crash", j, s)
				check("behind a crash")
			}
			j.Sync()
			want(t, "at last", again(t, s, 0), p.x)
		}
	}
}

// P17.3: the file to the last byte, and events that are done and synced behind it.
func TestCheckpointBytes(t *testing.T) {
	s := store.New(room)
	j := open(t, s, 100)
	doing(t, j, define(named("a")), start(4, 0, "a"))
	if e := j.Checkpoint(); e != api.OK {
		t.Fatal(e)
	}
	d := text("a") + num(0, 1) + text("do") + text("p") + num(1) + num(0, 2, 2, 8) + num(0, 2, 2, 8) + num(0)
	x := num(0) + text("a") + num(4, 0, 0, 0) + "\x00" + num(4, 0)
	due := disk{"c3": rec(num(1, 1) + text(d) + num(1) + text(x))}
	due.holds(t, "behind a checkpoint", s)
	doing(t, j, act(api.EvEmit, 4, 0))
	j.Sync()
	due["s3"] = rec(num(2, 4, 0))
	due.holds(t, "an event behind it", s)
	s.Crash()
	reboot(t, s, 0)
	due.holds(t, "behind a crash", s)
	j = open(t, s, 100)
	if x := j.State(); len(x.Sagas) != 1 || !x.Sagas[0].Out {
		t.Errorf("%s", tell(x))
	}
	if e := j.Checkpoint(); e != api.OK || !slices.Equal(s.Names(), []string{"c4"}) || j.Bytes() != 0 {
		t.Errorf("%d %v", e, s.Names())
	}
}

// P17.3: other files of checkpoints that are older go, greater ones stay till an opening.
func TestCheckpointOthers(t *testing.T) {
	s := store.New(room)
	j := open(t, s, 1)
	doing(t, j, life()[:5]...)
	disk{"c1": "x", "c3": "x", "c5": "x", "c7": "x", "s7": "x"}.fill(t, s, true)
	if e := j.Checkpoint(); e != api.OK || !slices.Equal(s.Names(), []string{"c6", "c7", "s7"}) {
		t.Fatalf("%d %v", e, s.Names())
	}
	want(t, "opened", open(t, s, 1).State(), j.State())
	if !slices.Equal(s.Names(), []string{"c6"}) {
		t.Errorf("%v", s.Names())
	}
}

// wide is a journal whose state's form has so many bytes.
func wide(t *testing.T, s *store.Store, bytes int) *Journal {
	t.Helper()
	const each = 8 + 65 + 1 // of a saga's form as a text, its definition's name being of one letter
	j := open(t, s, widest)
	d := named("a")
	sagas := (bytes - len(stateForm(api.State{Defs: []api.Def{d}}))) / each
	x := api.State{Defs: []api.Def{d}, Next: sagas, Sagas: make([]api.Saga, sagas)}
	for i := range x.Sagas {
		x.Sagas[i] = saga.Begin(d, i, 1)
	}
	left := bytes - len(stateForm(x))
	if left > 40 { // the step's name takes what is left, the party's some of it
		d.Steps[0].Party += strings.Repeat("q", 40)
		left -= 40
	}
	d.Steps[0].Name += strings.Repeat("x", left)
	if _, e := def.Check(d); e != api.OK {
		t.Fatal(e)
	}
	doing(t, j, define(d))
	for i := range sagas {
		doing(t, j, start(1, i, "a"))
	}
	if n := len(stateForm(j.State())); n != bytes {
		t.Fatalf("%d bytes, not %d", n, bytes)
	}
	return j
}

// P17.3: a state whose form is longer than a record may be.
func TestCheckpointLarge(t *testing.T) {
	for _, bytes := range []int{65535, 65536, 65537, 65610} {
		s := store.New(room)
		j := wide(t, s, bytes)
		x, d, n := j.State(), diskOf(s), j.Bytes()
		e := j.Checkpoint()
		if bytes <= api.MaxRecord {
			if e != api.OK || !slices.Equal(s.Names(), []string{"c2"}) || j.Bytes() != 0 {
				t.Fatalf("%d bytes: %d %v", bytes, e, s.Names())
			}
			disk{"c2": rec(stateForm(x))}.holds(t, "wide", s)
			want(t, "wide", again(t, s, 0), x)
			continue
		}
		if e != api.ErrLarge {
			t.Fatalf("%d bytes: %d", bytes, e)
		}
		want(t, "too wide", j.State(), x)
		d.holds(t, "too wide", s)
		if j.Bytes() != n {
			t.Errorf("%d bytes, not %d", j.Bytes(), n)
		}
		s.Fuse(1)
		if e := j.Checkpoint(); e != api.ErrLarge || s.Down() {
			t.Errorf("no deed is done: %d", e)
		}
		s.Crash()
		if e := j.Checkpoint(); e != api.ErrLarge {
			t.Errorf("without the power: %d", e)
		}
		reboot(t, s, all)
		want(t, "opened", open(t, s, widest).State(), x)
		doing(t, j, act(api.EvCancel, 1, 0), act(api.EvForget, 1, 0))
		if e := j.Checkpoint(); e != api.OK || !slices.Equal(s.Names(), []string{"c2"}) {
			t.Errorf("with one saga fewer: %d %v", e, s.Names())
		}
	}
}

// P17.3: with the power gone; the store is as it was.
func TestCheckpointWithoutPower(t *testing.T) {
	l := life()
	for done := range 6 {
		s := store.New(room)
		j := open(t, s, 60)
		doing(t, j, l[:done]...)
		j.Sync()
		x, d := j.State(), diskOf(s)
		s.Crash()
		for range 2 {
			if e := j.Checkpoint(); e != api.ErrDown {
				t.Fatalf("%d: %d", done, e)
			}
		}
		want(t, "without the power", j.State(), x)
		reboot(t, s, 0)
		d.holds(t, "without the power", s)
		want(t, "opened", open(t, s, 60).State(), x)
		if e := j.Checkpoint(); e != api.OK || j.Bytes() != 0 {
			t.Errorf("with the power: %d", e)
		}
	}
}

// P17.3: wherever the power goes, the state, and what an opening finds, are as they were; the same journal may go on, too.
func TestCheckpointPowerGoes(t *testing.T) {
	l := life()
	for _, size := range []int{1, 60, 300, widest} {
		for _, base := range []int{0, 1, 4} {
			for _, done := range []int{0, 1, 4, 5, 9, 16} {
				if done < base {
					continue
				}
				for _, keep := range []int{0, 1, 50, all} {
					for n := 1; ; n++ {
						s := store.New(room)
						j := open(t, s, size)
						if base > 0 {
							doing(t, j, l[:base]...)
							j.Checkpoint()
						}
						doing(t, j, l[base:done]...)
						j.Sync()
						x := j.State()
						s.Fuse(n)
						e := j.Checkpoint()
						if e == api.OK {
							s.Fuse(0)
							want(t, "done", again(t, s, 0), x)
							break
						}
						what := fmt.Sprintf("size %d, base %d, done %d, kept %d, deed %d", size, base, done, keep, n)
						if e != api.ErrDown || !s.Down() || n > 40 {
							t.Fatalf("%s: %d", what, e)
						}
						want(t, what, j.State(), x)
						reboot(t, s, keep)
						goesOn(t, what, s, j, n%3, x, l[done])
					}
				}
			}
		}
	}
}

// goesOn lets the power come again, by an opening, or none, in which another checkpoint or an event comes first.
func goesOn(t *testing.T, what string, s *store.Store, j *Journal, way int, x api.State, v api.Event) {
	t.Helper()
	switch way {
	case 0:
		j = open(t, s, 60)
		want(t, what+", opened", j.State(), x)
	case 1:
		if e := j.Checkpoint(); e != api.OK || j.Bytes() != 0 {
			t.Fatalf("%s: Checkpoint %d, %d bytes", what, e, j.Bytes())
		}
		if len(s.Names()) != 1 || diskOf(s)[s.Names()[0]] != rec(stateForm(x)) {
			t.Fatalf("%s: %v", what, s.Names())
		}
	}
	doing(t, j, v)
	if e := j.Sync(); e != api.OK {
		t.Fatalf("%s: Sync %d", what, e)
	}
	want(t, what+", and on", again(t, s, 0), come(t, x, v))
}

// P17.3: with as many files as a store may have: all is as it was, and goes on as if it hadn't been tried.
func TestCheckpointWithoutFiles(t *testing.T) {
	l := life()
	for _, base := range []int{0, 2} {
		s := store.New(room)
		j := open(t, s, widest)
		if base > 0 {
			doing(t, j, l[:base]...)
			j.Checkpoint()
		}
		doing(t, j, l[base:5]...)
		crowd(s, full-len(s.Names()))
		x, d, n := j.State(), diskOf(s), j.Bytes()
		for range 3 {
			if e := j.Checkpoint(); e != api.ErrFull {
				t.Fatalf("%d", e)
			}
		}
		want(t, "too many files", j.State(), x)
		d.holds(t, "too many files", s)
		if j.Bytes() != n {
			t.Errorf("%d bytes, not %d", j.Bytes(), n)
		}
		want(t, "opened", open(t, s, widest).State(), x)
		d.holds(t, "opened", s)
		doing(t, j, l[5]) // in the segment that is there
		if e := j.Sync(); e != api.OK {
			t.Fatal(e)
		}
		want(t, "and on", again(t, s, 0), come(t, x, l[5]))
		for _, name := range s.Names() {
			if strings.HasPrefix(name, "x") {
				s.Remove(name)
			}
		}
		if e := j.Checkpoint(); e != api.OK || len(s.Names()) != 1 {
			t.Errorf("one file fewer: %d %v", e, s.Names())
		}
		want(t, "at last", again(t, s, 0), come(t, x, l[5]))
	}
	s := store.New(room)
	j := open(t, s, widest)
	crowd(s, full)
	if e := j.Checkpoint(); e != api.ErrFull || len(s.Names()) != full {
		t.Errorf("of nothing: %d", e)
	}
}

// P17.3: without room for the file: all is as it was, and goes on as if it hadn't been tried.
func TestCheckpointWithoutSpace(t *testing.T) {
	l := life()
	for _, size := range []int{1, 60, 300, widest} {
		for _, base := range []int{0, 2} {
			for done := base; done < 9; done++ {
				p := &paper{d: disk{}, first: 1, last: 1, size: size}
				for i, v := range l[:done] {
					p.do(v, come(t, p.x, v))
					if i+1 == base {
						p.checkpoint()
					}
				}
				form := rec(stateForm(p.x))
				if p.d[chk(p.first)] == form {
					continue // it is there
				}
				need := len(form)
				for _, b := range p.d {
					need += len(b)
				}
				s := store.New(room)
				j := open(t, s, size)
				doing(t, j, l[:base]...)
				if base > 0 {
					j.Checkpoint()
				}
				doing(t, j, l[base:done]...)
				p.holds(t, "at first", j, s)
				j.Sync()
				s.Append("notes", make([]byte, room-need+1))
				s.Sync("notes")
				p.d["notes"] = string(make([]byte, room-need+1))
				for range 3 {
					if e := j.Checkpoint(); e != api.ErrSpace {
						t.Fatalf("size %d, base %d, done %d: %d", size, base, done, e)
					}
				}
				p.holds(t, "without room", j, s)
				want(t, "opened", open(t, s, size).State(), p.x)
				s.Truncate("notes", room-need)
				p.d["notes"] = p.d["notes"][1:]
				way := done % 3
				if way == 0 { // an event comes ahead of the next one, with all the room
					s.Remove("notes")
					delete(p.d, "notes")
					doing(t, j, l[done])
					p.do(l[done], come(t, p.x, l[done]))
					p.holds(t, "with room again", j, s)
				} else if way == 1 {
					s.Crash()
					reboot(t, s, 0)
					p.holds(t, "behind a crash", j, s)
				}
				if e := j.Checkpoint(); e != api.OK {
					t.Fatalf("with room again: %d", e)
				}
				p.checkpoint()
				p.holds(t, "with room again", j, s)
			}
		}
	}
}

// P17.3: a checkpoint that is there already asks for no room; it is safe then, whoever wrote it.
func TestCheckpointThere(t *testing.T) {
	l := life()
	s := store.New(room)
	j := open(t, s, 60)
	doing(t, j, l[:5]...)
	if e := j.Checkpoint(); e != api.OK {
		t.Fatal(e)
	}
	d := diskOf(s)
	s.Append("notes", make([]byte, s.Free()))
	crowd(s, full-2)
	for range 2 {
		if e := j.Checkpoint(); e != api.OK {
			t.Fatalf("it is there: %d", e)
		}
	}
	s.Crash()
	if e := j.Checkpoint(); e != api.ErrDown {
		t.Fatalf("it is there, without the power: %d", e)
	}
	reboot(t, s, 0)
	d.holds(t, "it is there", s)
	disk{"c9": rec(stateForm(j.State()))}.fill(t, s, false) // a file that isn't safe
	j = open(t, s, 60)
	if e := j.Checkpoint(); e != api.OK {
		t.Fatal(e)
	}
	want(t, "safe", again(t, s, 0), j.State())
	disk{"c9": rec(stateForm(j.State()))}.holds(t, "safe", s)
	s = store.New(room)
	disk{"c9": rec(stateForm(j.State()))}.fill(t, s, false)
	k := open(t, s, 60)
	if e := k.Checkpoint(); e != api.OK {
		t.Fatal(e)
	}
	want(t, "safe", again(t, s, 0), j.State())
}

// row is a journal that is drawn, and what it may come to: the states that its events came to, the number of the last one that is sure, and the one of the event at which the power went.
type row struct {
	m           mixer
	s           *store.Store
	j           *Journal
	size, limit int
	come        []api.State
	sure        int
	halfway     []api.State
	gone        bool // the power was gone since the last opening
	fresh       bool // and no event was done since
	now         int
	found       [4]int // openings that found all, less, one more, and what was sure alone
}

// last is the state that all events came to.
func (r *row) last() api.State {
	return r.come[len(r.come)-1]
}

// event draws an event, most often one that can be done.
func (r *row) event() api.Event {
	x, m := r.last(), &r.m
	r.now += m.below(4)
	v := api.Event{Now: r.now}
	switch m.below(10) {
	case 0:
		return define(pick(m, trip(), named("a"), named("b"), named("c"), named("")))
	case 1, 2:
		return start(r.now, x.Next+m.below(8)/7, pick(m, "trip", "trip", "a", "b", "no"))
	}
	v.Kind = 2 + m.below(9)
	if len(x.Sagas) == 0 {
		v.Saga = m.below(3)
		return v
	}
	one := x.Sagas[m.below(len(x.Sagas))]
	v.Saga = one.ID
	d, _ := state.Def(x, one.Def)
	switch {
	case saga.Over(one):
		v.Kind = pick(m, v.Kind, api.EvForget, api.EvForget)
	case one.Phase == api.Parked:
		v.Kind = pick(m, api.EvRetry, api.EvSkip, api.EvAbandon)
	case saga.May(d, one, r.now):
		v.Kind = pick(m, v.Kind, api.EvEmit, api.EvEmit, api.EvEmit)
	case one.Out:
		v.Kind = pick(m, api.EvReply, api.EvReply, api.EvLate, v.Kind)
	}
	if v.Kind == api.EvReply {
		v.Reply = api.Reply{Saga: one.ID, Step: one.Step, Undo: one.Phase == api.Undoing, Try: one.Tries, Good: m.below(3) > 0}
	}
	return v
}

// refused holds an error of the journal's log against what may be.
func (r *row) refused(t *testing.T, what string, e api.Errno) {
	t.Helper()
	down := r.s.Down()
	if down && e != api.ErrDown || !down && e == api.ErrDown && !r.gone || e != api.ErrDown && e != api.ErrFull && e != api.ErrSpace {
		t.Fatalf("%s: %d, down: %v, gone: %v", what, e, down, r.gone)
	}
}

// do does an event that is drawn.
func (r *row) do(t *testing.T) {
	v, was := r.event(), r.s.Down()
	y, due, refused := state.Do(r.last(), v, r.limit)
	c, e := r.j.Do(v)
	switch {
	case refused != api.OK:
		if e != refused || c != (api.Command{}) {
			t.Fatalf("%s: %d, not %d", tell(v), e, refused)
		}
	case e == api.OK:
		if c != due {
			t.Fatalf("%s: %s, not %s", tell(v), tell(c), tell(due))
		}
		r.come, r.halfway, r.fresh = append(r.come, y), nil, false
	default:
		if c != (api.Command{}) {
			t.Fatalf("%s: %s beside %d", tell(v), tell(c), e)
		}
		r.refused(t, tell(v), e)
		if r.s.Down() && !was {
			r.halfway = append(r.halfway, y) // what another one left may be there still: the power may have gone ahead of this one's record
		}
	}
	want(t, tell(v), r.j.State(), r.last())
}

// sync makes all safe, or has a checkpoint do so.
func (r *row) sync(t *testing.T, what string, call func() api.Errno) {
	e := call()
	if e != api.OK {
		r.refused(t, what, e)
	} else if r.s.Down() {
		t.Fatalf("%s: OK without the power", what)
	} else {
		r.sure, r.halfway = len(r.come)-1, nil
	}
	want(t, what, r.j.State(), r.last())
}

// crash takes the power, and brings it again.
func (r *row) crash(t *testing.T) {
	r.s.Crash()
	r.gone, r.fresh = true, true
	keep := make([]int, full)
	kept := r.m.below(4)
	for i := range keep {
		keep[i] = []int{0, r.m.below(60), r.m.below(400), all}[kept]
	}
	if e := r.s.Boot(keep); e != api.OK {
		t.Fatal(e)
	}
}

// open opens it, which the power may leave at any deed, and holds what is found against what may be.
func (r *row) open(t *testing.T) {
	for {
		j, e := Open(r.s, r.size, r.limit)
		if e == api.OK {
			r.j = j
			break
		}
		if j != nil || e != api.ErrDown || !r.s.Down() {
			t.Fatalf("Open: %v %d", j, e)
		}
		r.crash(t)
	}
	x := r.j.State()
	same := func(y api.State) bool {
		return state.Same(x, y)
	}
	if k, e := Open(r.s, r.size, r.limit); e != api.OK || !same(k.State()) {
		if e != api.ErrDown || !r.s.Down() {
			t.Fatalf("again: %d", e)
		}
		r.crash(t) // once more, as the fuse was for that one
		r.open(t)
		return
	}
	at := slices.IndexFunc(r.come[r.sure:], same)
	switch {
	case at >= 0:
		r.come = r.come[:r.sure+at+1]
	case slices.ContainsFunc(r.halfway, same):
		r.come = append(r.come, x)
		r.found[2]++
	default:
		t.Fatalf("found %s, not one of %d", tell(x), len(r.come)-r.sure)
	}
	if at == 0 && r.fresh {
		r.found[3]++
	}
	if r.fresh {
		r.sure = len(r.come) - 1 // all that is there behind a crash is safe
	}
	r.halfway, r.gone, r.fresh = nil, false, false
	r.found[0]++
}

// P17.4: rows of deeds that are drawn, in which the power goes at any deed of the store.
func TestDrawnRows(t *testing.T) {
	var found [4]int
	events := 0
	for seed := range 2500 {
		m := mixer(seed)
		r := &row{m: m, s: store.New(pick(&m, 1500, 4000, room, room)), size: pick(&m, 1, 60, 200, 700, widest), limit: 1 + m.below(4), come: make([]api.State, 1)}
		if m.below(5) == 0 {
			crowd(r.s, full-m.below(6))
			for i := range full {
				r.s.Sync("x" + strconv.Itoa(i))
			}
		}
		r.m = m
		r.open(t)
		for range 60 {
			switch r.m.below(24) {
			case 0:
				r.sync(t, "Sync", r.j.Sync)
			case 1:
				r.sync(t, "Checkpoint", r.j.Checkpoint)
			case 2:
				r.s.Fuse(1 + r.m.below(6))
			case 3:
				r.crash(t)
				if r.m.below(3) > 0 {
					r.open(t)
				}
			case 4:
				if r.s.Down() {
					r.crash(t)
				}
				r.open(t)
			default:
				r.do(t)
				events++
			}
		}
		if r.s.Down() {
			r.crash(t)
		}
		r.open(t)
		for i, n := range r.found {
			found[i] += n
		}
	}
	if found[0] < 5000 || found[2] < 100 || found[3] < 300 {
		t.Errorf("openings %v of %d events", found, events)
	}
}

// sound holds what Open makes of any bytes: a right state, and the same again, or an error that the chapter has.
func sound(t *testing.T, what string, s *store.Store, size, limit int) {
	t.Helper()
	j, e := Open(s, size, limit)
	if e != api.OK {
		if j != nil || e != api.ErrForm && e != api.ErrState {
			t.Fatalf("%s: %v %d", what, j, e)
		}
		return
	}
	x := j.State()
	if !state.Good(x) {
		t.Fatalf("%s: the state isn't right: %s", what, tell(x))
	}
	d := diskOf(s)
	for range 2 {
		k, e := Open(s, size, limit)
		if e != api.OK {
			t.Fatalf("%s: again %d", what, e)
		}
		want(t, what+", again", k.State(), x)
		d.holds(t, what+", again", s)
	}
	if e := j.Checkpoint(); e != api.OK && e != api.ErrFull || j.Bytes() != 0 && e == api.OK {
		t.Fatalf("%s: Checkpoint %d", what, e)
	} else if e == api.OK {
		want(t, what+", behind a checkpoint", again(t, s, 0), x)
	}
}

// P17.4: of right files with a byte turned, or cut off anywhere.
func TestTurnedBytes(t *testing.T) {
	l := life()
	d := disk{
		"c3": rec(stateForm(come(t, api.State{}, l[:3]...))),
		"c5": rec(stateForm(come(t, api.State{}, l[:6]...))),
		"s5": rec(eventForms(l[6:8]...)...),
		"s6": rec(eventForms(l[8:11]...)...),
	}
	for name, b := range d {
		for at := range len(b) {
			for _, bit := range []byte{1, 0x80, 0xff} {
				turned := maps.Clone(d)
				turned[name] = b[:at] + string([]byte{b[at] ^ bit}) + b[at+1:]
				s := turned.safe(t)
				sound(t, fmt.Sprintf("%s turned at %d", name, at), s, 100, 5)
			}
			cut := maps.Clone(d)
			cut[name] = b[:at]
			sound(t, fmt.Sprintf("%s cut at %d", name, at), cut.safe(t), 100, 5)
			cut[name] = b[at:]
			sound(t, fmt.Sprintf("%s cut ahead of %d", name, at), cut.safe(t), 100, 5)
		}
	}
	// What is turned within a payload whose sum is right.
	for i, v := range l {
		form := eventForm(v)
		for at := range len(form) {
			for _, bit := range []byte{1, 2, 0x80} {
				turned := form[:at] + string([]byte{form[at] ^ bit}) + form[at+1:]
				row := eventForms(l[:min(i+2, len(l))]...)
				row[i] = turned
				sound(t, fmt.Sprintf("event %d turned at %d", i, at), disk{"s1": rec(row...)}.safe(t), 100, 5)
				if at > 60 {
					break
				}
			}
		}
	}
	form := stateForm(come(t, api.State{}, l...))
	for at := range len(form) {
		turned := form[:at] + string([]byte{form[at] ^ 1}) + form[at+1:]
		sound(t, fmt.Sprintf("the state's form turned at %d", at), disk{"c3": d["c3"], "c5": rec(turned), "s5": d["s5"]}.safe(t), 100, 5)
	}
}

// P17.4: of bytes that are drawn.
func TestDrawnBytes(t *testing.T) {
	m := mixer(4)
	l := life()
	pieces := append(eventForms(l...), stateForm(api.State{}), stateForm(come(t, api.State{}, l[:5]...)), "", "x")
	for range 6000 {
		s := store.New(room)
		for range m.below(7) {
			name := pick(&m, "c", "s", "c", "s", "x") + strconv.Itoa(1+m.below(4))
			b := ""
			for range m.below(5) {
				piece := pick(&m, pieces...)
				if m.below(6) == 0 {
					piece = pieces[m.below(3)]
				}
				b += pick(&m, rec(piece), rec(piece), rec(piece), piece, string([]byte{byte(m.below(256)), 0x5a}))
			}
			s.Append(name, []byte(b))
			s.Sync(name)
		}
		sound(t, "drawn", s, 1+m.below(200), 1+m.below(5))
	}
}

// P1: whatever is handed in, each call ends, and none panics.
func TestAnyArguments(t *testing.T) {
	m := mixer(9)
	numbers := []int{0, 1, 2, 3, 10, 11, -1, 1 << 20, 1<<20 + 1, 1 << 40, 1<<40 + 1, 1 << 50, 1 << 62, lowest, highest}
	names := []string{"", "trip", "a", "a b", "\xff", strings.Repeat("é", 64), strings.Repeat("x", 65), "/"}
	number := func() int {
		return pick(&m, numbers...)
	}
	for range 300 {
		s := store.New(1 + m.below(3000))
		j, e := Open(s, pick(&m, 1, 50, widest), pick(&m, 1, 2, widest))
		if e != api.OK {
			t.Fatal(e)
		}
		for range 40 {
			d := pick(&m, api.Def{}, trip(), named("a"), api.Def{Name: pick(&m, names...), Deadline: number(), Steps: make([]api.Step, m.below(40))})
			v := api.Event{Kind: m.below(14) - 1, Now: number(), Saga: number(), Name: pick(&m, names...), Def: d}
			v.Reply = api.Reply{Saga: number(), Step: number(), Undo: m.below(2) > 0, Try: number(), Good: m.below(2) > 0}
			if m.below(3) > 0 {
				v.Name, v.Reply = "", api.Reply{}
			}
			if m.below(3) > 0 {
				v.Now, v.Saga = m.below(9), m.below(2)
			}
			x := j.State()
			if _, e := j.Do(v); e != api.OK {
				want(t, "refused", j.State(), x)
			}
			switch m.below(12) {
			case 0:
				j.Sync()
			case 1:
				j.Checkpoint()
			case 2:
				s.Fuse(m.below(4))
			case 3:
				s.Crash()
				j.Bytes()
				s.Boot([]int{number(), number(), number()})
			case 4:
				Open(s, number(), number())
			}
			if x := j.State(); !state.Good(x) {
				t.Fatalf("%s", tell(x))
			}
		}
	}
}

// The chapter's example, and what a checkpoint leaves.
func Example() {
	s := store.New(1 << 16)
	j, _ := Open(s, 1000, 100)
	j.Do(api.Event{Kind: api.EvDefine, Def: api.Def{Name: "order", Steps: []api.Step{{
		Name: "book", Party: "hotel", Timeout: 5,
		Try:  api.Plan{Retries: 1, Base: 2, Factor: 2, Cap: 8},
		Undo: api.Plan{Retries: 1, Base: 2, Factor: 2, Cap: 8},
	}}}})
	j.Sync()
	j.Do(api.Event{Kind: api.EvStart, Name: "order"})
	s.Crash()
	s.Boot(nil)
	j, e := Open(s, 1000, 100)
	x := j.State()
	fmt.Println(e, len(x.Defs), len(x.Sagas), x.Next, j.Bytes(), s.Names())

	j.Do(api.Event{Kind: api.EvStart, Name: "order"})
	c, e := j.Do(api.Event{Kind: api.EvEmit})
	fmt.Println(e, c.Key, c.Party, s.Names())
	fmt.Println(j.Checkpoint(), j.Bytes(), s.Names(), Base("c2"))
	s.Crash()
	s.Boot(nil)
	j, e = Open(s, 1000, 100)
	fmt.Println(e, j.State().Sagas[0].Out)
	// Output:
	// 0 1 0 0 171 [s1]
	// 0 0/book/do hotel [s1]
	// 0 0 [c2] 2
	// 0 true
}
