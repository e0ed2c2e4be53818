package def

import (
	"fmt"
	"math"
	"reflect"
	"regexp"
	"slices"
	"strconv"
	"strings"
	"testing"
	"unicode/utf8"

	"usufruct/api"
)

const (
	lowest    = math.MinInt
	highest   = math.MaxInt
	end       = 1 << 40 // the greatest tick
	mostSteps = 32
	mostPrio  = 255
	mostSaga  = 999_999_999_999_999_999 // the greatest number of 18 digits
)

// mixer draws numbers by a rule, the same ones each time.
type mixer uint64

func (m *mixer) below(n int) int {
	*m = *m*6364136223846793005 + 1442695040888963407
	return int(uint64(*m)>>33) % n
}

// far draws a number of any of many sizes, from 0 up to the greatest one of 18 digits.
func (m *mixer) far() int {
	size := 1 << m.below(60)
	return min(m.below(1<<30)<<30+m.below(1<<30), mostSaga) % size
}

// nearest is the tick nearest to n.
func nearest(n int) int {
	return max(0, min(n, end))
}

// numberForm is a saga's number in a key.
var numberForm = regexp.MustCompile(`^(0|[1-9][0-9]{0,17})$`)

// isName tells whether that is a name, by layer 2's words.
func isName(s string) bool {
	if s == "" || !utf8.ValidString(s) || utf8.RuneCountInString(s) > 64 {
		return false
	}
	const letters = "abcdefghijklmnopqrstuvwxyzABCDEFGHIJKLMNOPQRSTUVWXYZ"
	for at, r := range s {
		if r < 0x80 && !strings.ContainsRune(letters, r) && (at == 0 || !strings.ContainsRune("0123456789-_", r)) {
			return false
		}
	}
	return true
}

// isFrom tells whether n is from a to b.
func isFrom(n, a, b int) bool {
	return a <= n && n <= b
}

// isPlan tells whether a plan is right, by layer 11's words.
func isPlan(p api.Plan) bool {
	return isFrom(p.Retries, 0, 1000) && isFrom(p.Base, 1, end) && isFrom(p.Factor, 1, 16) && isFrom(p.Cap, p.Base, end)
}

// fault is a fault of a definition, and its place.
type fault struct {
	at int
	e  api.Errno
}

// faults are all faults of a definition, in the chapter's order, none at the end.
func faults(d api.Def) []fault {
	var l []fault
	put := func(holds bool, at int, e api.Errno) {
		if holds {
			l = append(l, fault{at, e})
		}
	}
	put(!isName(d.Name), -1, api.ErrName)
	put(!isFrom(d.Deadline, 0, end), -1, api.ErrArg)
	put(len(d.Steps) == 0, -1, api.ErrShort)
	put(len(d.Steps) > mostSteps, -1, api.ErrLarge)
	for i, s := range d.Steps {
		put(!isName(s.Name) || !isName(s.Party), i, api.ErrName)
		twin := false
		for j := range i {
			twin = twin || d.Steps[j].Name == s.Name
		}
		put(twin, i, api.ErrThere)
		put(!isFrom(s.Timeout, 1, end) || !isFrom(s.Prio, 0, mostPrio), i, api.ErrArg)
		put(!isPlan(s.Try) || !isPlan(s.Undo), i, api.ErrForm)
	}
	return append(l, fault{-1, api.OK})
}

// tell is a definition, cut short where it is long.
func tell(d api.Def) string {
	s := fmt.Sprintf("%+v", d)
	return s[:min(len(s), 600)]
}

// check holds Check against the first fault by the chapter, and against the one that is awaited.
func check(t *testing.T, d api.Def, at int, e api.Errno) {
	t.Helper()
	if want := faults(d)[0]; want != (fault{at, e}) {
		t.Fatalf("the chapter has %d, %d of %s, not %d, %d", want.at, want.e, tell(d), at, e)
	}
	if gotAt, got := Check(d); gotAt != at || got != e {
		t.Fatalf("Check(%s) = %d, %d, not %d, %d", tell(d), gotAt, got, at, e)
	}
}

// checkAny holds Check against the chapter.
func checkAny(t *testing.T, d api.Def) {
	t.Helper()
	want := faults(d)[0]
	check(t, d, want.at, want.e)
}

// right is a right definition of so many steps, each at one of three parties.
func right(n int) api.Def {
	d := api.Def{Name: "order", Deadline: 50}
	for i := range n {
		d.Steps = append(d.Steps, api.Step{
			Name:    "s" + strconv.Itoa(i),
			Party:   "p" + strconv.Itoa(i%3),
			Timeout: 5 + i,
			Try:     api.Plan{Retries: i, Base: 1 + i, Factor: 2, Cap: 50},
			Undo:    api.Plan{Retries: 9, Base: 3, Factor: 1, Cap: 3 + i},
			Prio:    i,
		})
	}
	return d
}

var goodNames = []string{
	"a", "z", "A", "Z", "a0", "a9", "a-", "a_", "a-b_c9", "é", "\u0080", "\uffff", "\U0010ffff", "\ufffd", "x\ufffd", "do", "undo",
	strings.Repeat("a", 64), strings.Repeat("é", 64), strings.Repeat("\U0010ffff", 64), "a" + strings.Repeat("9", 63),
}

var badNames = []string{
	"", "1", "0a", "-", "-a", "_", "_a", " a", "a ", "a b", "/", "a/", "/a", "a/b", "a.b", "a\x00", "\x00", "\x7f", "a\n", "\n",
	"@", "[", "`", "{", "a@", "a[", "a`", "a{", "a:", "a,", "a^", "\x80", "a\xff", "\xff", "é\xc3", "\xc3", "\xc0\x80", "\xed\xa0\x80", "\xf4\x90\x80\x80", "\xef\xbf",
	strings.Repeat("a", 65), strings.Repeat("é", 65), "a" + strings.Repeat("9", 64), strings.Repeat("a", 64) + "\xff", strings.Repeat("a", 1<<16),
}

// steps' faults, one at a time, by the error that each one is.
type turn struct {
	name string
	do   func(s *api.Step)
	e    api.Errno
}

// planTurns are what makes a plan right and wrong, at each number's edges.
func planTurns() []turn {
	ranges := []struct {
		name    string
		of      func(p *api.Plan) *int
		others  api.Plan
		inside  []int
		outside []int
	}{
		{"retries", func(p *api.Plan) *int { return &p.Retries }, api.Plan{Base: 1, Factor: 1, Cap: 1}, []int{0, 1, 999, 1000}, []int{lowest, -1, 1001, highest}},
		{"base", func(p *api.Plan) *int { return &p.Base }, api.Plan{Factor: 16, Cap: end}, []int{1, 2, end - 1, end}, []int{lowest, -1, 0, end + 1, highest}},
		{"base by cap", func(p *api.Plan) *int { return &p.Base }, api.Plan{Factor: 2, Cap: 7}, []int{1, 6, 7}, []int{0, 8, end, highest}},
		{"factor", func(p *api.Plan) *int { return &p.Factor }, api.Plan{Base: 1, Cap: 1}, []int{1, 2, 15, 16}, []int{lowest, -1, 0, 17, highest}},
		{"cap", func(p *api.Plan) *int { return &p.Cap }, api.Plan{Base: 7, Factor: 2}, []int{7, 8, end - 1, end}, []int{lowest, -7, -1, 0, 1, 6, end + 1, highest}},
	}
	var l []turn
	for _, r := range ranges {
		for i, n := range append(slices.Clone(r.inside), r.outside...) {
			p := r.others
			*r.of(&p) = n
			e := api.OK
			if i >= len(r.inside) {
				e = api.ErrForm
			}
			l = append(l,
				turn{fmt.Sprint("try ", r.name, n), func(s *api.Step) { s.Try = p }, e},
				turn{fmt.Sprint("undo ", r.name, n), func(s *api.Step) { s.Undo = p }, e})
		}
	}
	return append(l, turn{"no try", func(s *api.Step) { s.Try = api.Plan{} }, api.ErrForm}, turn{"no undo", func(s *api.Step) { s.Undo = api.Plan{} }, api.ErrForm})
}

// turns are what makes a step right and wrong.
func turns() []turn {
	l := planTurns()
	for e, names := range map[api.Errno][]string{api.OK: goodNames, api.ErrName: badNames} {
		for _, n := range names {
			l = append(l,
				turn{fmt.Sprintf("name %.20q", n), func(s *api.Step) { s.Name = n }, e},
				turn{fmt.Sprintf("party %.20q", n), func(s *api.Step) { s.Party = n }, e})
		}
	}
	for e, numbers := range map[api.Errno][]int{api.OK: {1, 2, end - 1, end}, api.ErrArg: {lowest, -end, -1, 0, end + 1, 1 << 41, highest}} {
		for _, n := range numbers {
			l = append(l, turn{fmt.Sprint("timeout ", n), func(s *api.Step) { s.Timeout = n }, e})
		}
	}
	for e, numbers := range map[api.Errno][]int{api.OK: {0, 1, 254, mostPrio}, api.ErrArg: {lowest, -256, -1, 256, 257, 511, 512, 1 << 32, highest}} {
		for _, n := range numbers {
			l = append(l, turn{fmt.Sprint("priority ", n), func(s *api.Step) { s.Prio = n }, e})
		}
	}
	return l
}

// P13.1: right definitions of each number of steps, and what is beside them.
func TestCheckHowMany(t *testing.T) {
	check(t, api.Def{Name: "a"}, -1, api.ErrShort)
	check(t, api.Def{Name: "a", Steps: []api.Step{}}, -1, api.ErrShort)
	check(t, api.Def{Name: "a", Steps: right(3).Steps[:0]}, -1, api.ErrShort)
	for n := 1; n <= mostSteps; n++ {
		check(t, right(n), -1, api.OK)
	}
	for _, n := range []int{33, 34, 64, 65, 256, 257, 1000} {
		check(t, right(n), -1, api.ErrLarge)
		d := right(n)
		d.Steps[0].Name, d.Steps[n-1].Timeout = "", 0
		check(t, d, -1, api.ErrLarge)
		check(t, api.Def{Name: "a", Steps: make([]api.Step, n)}, -1, api.ErrLarge)
		twins := right(1)
		twins.Steps = slices.Repeat(twins.Steps, n)
		check(t, twins, -1, api.ErrLarge)
	}
}

// P13.1: a definition's name and its deadline.
func TestCheckHead(t *testing.T) {
	for _, n := range []int{1, 3, mostSteps} {
		for _, name := range goodNames {
			d := right(n)
			d.Name = name
			check(t, d, -1, api.OK)
		}
		for _, name := range badNames {
			d := right(n)
			d.Name = name
			check(t, d, -1, api.ErrName)
		}
		for _, deadline := range []int{0, 1, 2, end - 1, end} {
			d := right(n)
			d.Deadline = deadline
			check(t, d, -1, api.OK)
		}
		for _, deadline := range []int{lowest, lowest + 1, -end, -2, -1, end + 1, 1 << 41, highest - 1, highest} {
			d := right(n)
			d.Deadline = deadline
			check(t, d, -1, api.ErrArg)
		}
	}
}

// P13.1: each number and text of a step, right and wrong, at each place.
func TestCheckStep(t *testing.T) {
	places := []struct{ steps, place int }{{1, 0}, {2, 0}, {2, 1}, {3, 0}, {3, 1}, {3, 2}, {mostSteps, 0}, {mostSteps, 16}, {mostSteps, mostSteps - 1}}
	for _, u := range turns() {
		for _, c := range places {
			d := right(c.steps)
			u.do(&d.Steps[c.place])
			at := c.place
			if u.e == api.OK {
				at = -1
			}
			check(t, d, at, u.e)
		}
	}
}

// P13.1: no two names alike, wherever they stand, at parties alike or not; parties alike are no fault.
func TestCheckTwins(t *testing.T) {
	for _, n := range []int{2, 3, mostSteps} {
		for late := range n {
			for early := range late {
				d := right(n)
				d.Steps[late].Party = d.Steps[early].Party
				check(t, d, -1, api.OK)
				d.Steps[late].Name = d.Steps[early].Name
				check(t, d, late, api.ErrThere)
				d.Steps[late].Party = "other"
				check(t, d, late, api.ErrThere)
			}
		}
	}
	d := right(4)
	for i := range d.Steps {
		d.Steps[i].Party = "p"
	}
	check(t, d, -1, api.OK)
	d.Steps[1], d.Steps[3] = d.Steps[0], d.Steps[0]
	check(t, d, 1, api.ErrThere)
	d = right(2)
	d.Steps[1].Name = "S0" // another name than s0
	check(t, d, -1, api.OK)
	d.Steps[1].Name = "s"
	check(t, d, -1, api.OK)
	d.Name, d.Steps[0].Party, d.Steps[0].Name = "s", "s", "x"
	check(t, d, -1, api.OK) // a definition's, a party's and a step's name may be alike
}

// stepFaults are faults of a step behind another one, in the chapter's order.
var stepFaults = []turn{
	{"name", func(s *api.Step) { s.Name = "1" }, api.ErrName},
	{"party", func(s *api.Step) { s.Party = "" }, api.ErrName},
	{"twin", func(s *api.Step) { s.Name = "s0" }, api.ErrThere},
	{"timeout", func(s *api.Step) { s.Timeout = 0 }, api.ErrArg},
	{"priority", func(s *api.Step) { s.Prio = 256 }, api.ErrArg},
	{"try", func(s *api.Step) { s.Try.Cap = 0 }, api.ErrForm},
	{"undo", func(s *api.Step) { s.Undo.Retries = -1 }, api.ErrForm},
}

// P13.1, R2: of a step's faults, the one that the chapter names first, at each set of them; of the steps, the first one that has one.
func TestCheckOrderOfStep(t *testing.T) {
	for set := range 1 << len(stepFaults) {
		for other := range stepFaults {
			d := right(5)
			e := api.OK
			for i := len(stepFaults) - 1; i >= 0; i-- {
				if set>>i&1 == 1 {
					stepFaults[i].do(&d.Steps[2])
					e = stepFaults[i].e
				}
			}
			stepFaults[other].do(&d.Steps[4])
			if e == api.OK {
				check(t, d, 4, stepFaults[other].e)
				continue
			}
			check(t, d, 2, e)
		}
	}
}

// P13.1, R2: of the definition ahead of its steps, in the chapter's order.
func TestCheckOrderOfHead(t *testing.T) {
	for set := range 1 << 2 {
		for _, n := range []int{0, 1, mostSteps, mostSteps + 1} {
			for _, wrong := range stepFaults {
				d := right(n)
				for i := range d.Steps {
					wrong.do(&d.Steps[i])
				}
				if set&1 != 0 {
					d.Name = ""
				}
				if set&2 != 0 {
					d.Deadline = -1
				}
				checkAny(t, d)
			}
		}
	}
	check(t, api.Def{}, -1, api.ErrName)
	check(t, api.Def{Deadline: -1}, -1, api.ErrName)
	check(t, api.Def{Name: "a", Deadline: -1}, -1, api.ErrArg)
	check(t, api.Def{Name: "a", Deadline: -1, Steps: make([]api.Step, 33)}, -1, api.ErrArg)
	check(t, api.Def{Name: "a", Steps: make([]api.Step, 32)}, 0, api.ErrName)
}

// P13.1: drawn definitions with no fault, some, and many.
func TestCheckDrawn(t *testing.T) {
	m := mixer(1)
	all := turns()
	found := map[api.Errno]int{}
	for range 30_000 {
		d := right(1 + m.below(6))
		for range m.below(4) {
			all[m.below(len(all))].do(&d.Steps[m.below(len(d.Steps))])
		}
		if m.below(4) == 0 {
			d.Steps[len(d.Steps)-1].Name = d.Steps[m.below(len(d.Steps))].Name
		}
		found[faults(d)[0].e]++
		checkAny(t, d)
	}
	for _, e := range []api.Errno{api.OK, api.ErrName, api.ErrThere, api.ErrArg, api.ErrForm} {
		if found[e] < 100 {
			t.Errorf("error %d: drawn %d times", e, found[e])
		}
	}
}

// copied is a definition in the test's own memory.
func copied(d api.Def) api.Def {
	d.Steps = append([]api.Step(nil), d.Steps...)
	return d
}

// whole is a definition with what lies behind its list's length, in the test's own memory.
func whole(d api.Def) api.Def {
	d.Steps = d.Steps[:cap(d.Steps)]
	return copied(d)
}

// P13.1 to P13.3, R4: nothing that is handed in is changed, and what lies behind a list's length is neither read nor written.
func TestHandedInStays(t *testing.T) {
	all := right(6)
	all.Steps[4] = all.Steps[0] // behind the length
	all.Steps[5] = api.Step{}
	d := all
	d.Steps = all.Steps[:4]
	other := d
	other.Steps = append(slices.Clone(d.Steps), api.Step{Name: "else"})[:4]
	kept, keptOther := whole(d), whole(other)
	check(t, d, -1, api.OK)
	own := Own(d)
	if len(own.Steps) != 4 || !Same(d, other) || !Same(other, own) {
		t.Error("what lies behind the length was read")
	}
	if got := Parties(d); !slices.Equal(got, []string{"p0", "p1", "p2"}) {
		t.Error(got)
	}
	if Key(1, d, 4, false) != "" {
		t.Error("there is no step 4")
	}
	End(d, 5)
	if !reflect.DeepEqual(whole(d), kept) || !reflect.DeepEqual(whole(other), keptOther) {
		t.Error("what was handed in was changed")
	}
}

// parties holds Parties against the chapter.
func parties(t *testing.T, d api.Def) {
	t.Helper()
	var want []string
	for _, s := range d.Steps {
		if !slices.Contains(want, s.Party) {
			want = append(want, s.Party)
		}
	}
	if got := Parties(d); !slices.Equal(got, want) {
		t.Fatalf("Parties(%s) = %q, not %q", tell(d), got, want)
	}
}

// at is a definition of steps at those parties.
func at(parties ...string) api.Def {
	d := right(len(parties))
	for i, p := range parties {
		d.Steps[i].Party = p
	}
	return d
}

// P13.2: the steps' parties, each once, in the order in which they come first.
func TestParties(t *testing.T) {
	for _, c := range []struct {
		d    api.Def
		want []string
	}{
		{api.Def{}, nil},
		{api.Def{Name: "a", Steps: []api.Step{}}, nil},
		{at("a"), []string{"a"}},
		{at("a", "a", "a"), []string{"a"}},
		{at("b", "a"), []string{"b", "a"}},
		{at("b", "a", "b", "c", "a", "c", "B"), []string{"b", "a", "c", "B"}},
		{at("", "a", "", "1"), []string{"", "a", "1"}},
		{at("\xff", "\xfe", "\ufffd", "\xff"), []string{"\xff", "\xfe", "\ufffd"}},
		{at("a/b", "a", "a/b"), []string{"a/b", "a"}},
	} {
		parties(t, c.d)
		if got := Parties(c.d); !slices.Equal(got, c.want) {
			t.Errorf("Parties(%s) = %q, not %q", tell(c.d), got, c.want)
		}
	}
	for n := range 70 {
		parties(t, right(n))
		d := right(n)
		for i := range d.Steps {
			d.Steps[i].Party = d.Steps[n-1-i].Name
		}
		parties(t, d)
	}
	m := mixer(2)
	for range 2000 {
		row := make([]string, m.below(12))
		for i := range row {
			row[i] = []string{"a", "b", "c", "", "\x00", "A", "aa"}[m.below(7)]
		}
		parties(t, at(row...))
	}
	twins := at("a", "b")
	twins.Steps[1].Name = twins.Steps[0].Name // it is no right one, and has two parties
	parties(t, twins)
}

// P13.2, R4: what Parties answers is new memory each time.
func TestPartiesOwnMemory(t *testing.T) {
	d := at("a", "b", "c")
	one, other := Parties(d), Parties(d)
	one[0] = "x"
	one = append(one[:1], "y", "z", "u")
	if !slices.Equal(other, []string{"a", "b", "c"}) || !slices.Equal(Parties(d), other) || d.Steps[0].Party != "a" {
		t.Error(one, other, Parties(d), d)
	}
}

// key holds Key, and Cut of it, against the chapter.
func key(t *testing.T, saga int, d api.Def, step int, undo bool) string {
	t.Helper()
	want := ""
	if saga >= 0 && 0 <= step && step < len(d.Steps) {
		want = fmt.Sprintf("%d/%s/do", saga, d.Steps[step].Name)
		if undo {
			want = fmt.Sprintf("%d/%s/undo", saga, d.Steps[step].Name)
		}
	}
	got := Key(saga, d, step, undo)
	if got != want {
		t.Fatalf("Key(%d, %s, %d, %t) = %.100q, not %.100q", saga, tell(d), step, undo, got, want)
	}
	cut(t, got)
	return got
}

// P13.2: the key of each step, both ways; the empty one, where there is no such step, or no such saga.
func TestKey(t *testing.T) {
	sagas := []int{lowest, lowest + 1, -end, -1, 0, 1, 9, 10, 12, 99, 100, 1 << 32, end, end + 1, mostSaga, mostSaga + 1, highest - 1, highest}
	for _, n := range []int{0, 1, 3, mostSteps, mostSteps + 1} {
		d := right(n)
		places := []int{lowest, lowest + 1, -1 << 32, -2, -1, n, n + 1, 64, 1 << 32, highest - 1, highest}
		for i := range n {
			places = append(places, i)
		}
		for _, saga := range sagas {
			for _, place := range places {
				key(t, saga, d, place, false)
				key(t, saga, d, place, true)
			}
		}
	}
	for _, name := range append(slices.Clone(goodNames), badNames...) {
		d := api.Def{Steps: []api.Step{{Name: name}}}
		key(t, 5, d, 0, false)
		key(t, 5, d, 0, true)
	}
	d := right(2)
	d.Steps[1].Name = "pay"
	if got := Key(7, d, 1, true); got != "7/pay/undo" {
		t.Error(got)
	}
	if got := Key(0, api.Def{Steps: []api.Step{{}}}, 0, false); got != "0//do" {
		t.Error(got)
	}
}

// parts are what a key is made of.
type parts struct {
	saga     int
	step     string
	undo, ok bool
}

// wantParts is what the chapter has for Cut.
func wantParts(key string) parts {
	l := strings.Split(key, "/")
	if len(l) != 3 || !numberForm.MatchString(l[0]) || !isName(l[1]) || l[2] != "do" && l[2] != "undo" {
		return parts{}
	}
	n, err := strconv.Atoi(l[0])
	if err != nil {
		panic(err)
	}
	return parts{n, l[1], l[2] == "undo", true}
}

// cut holds Cut against the chapter.
func cut(t *testing.T, key string) parts {
	t.Helper()
	saga, step, undo, ok := Cut(key)
	got := parts{saga, step, undo, ok}
	if want := wantParts(key); got != want {
		t.Fatalf("Cut(%.100q) = %.100v, not %.100v", key, got, want)
	}
	return got
}

// P13.2: texts that are keys.
func TestCutKeys(t *testing.T) {
	for key, want := range map[string]parts{
		"0/é/do":                        {0, "é", false, true},
		"0/é/undo":                      {0, "é", true, true},
		"7/pay/undo":                    {7, "pay", true, true},
		"10/a/do":                       {10, "a", false, true},
		"100/do/do":                     {100, "do", false, true},
		"1/undo/do":                     {1, "undo", false, true},
		"1/do/undo":                     {1, "do", true, true},
		"9007199254740993/a/do":         {9007199254740993, "a", false, true},
		"123456789012345678/a/do":       {123456789012345678, "a", false, true},
		"100000000000000000/a/do":       {100000000000000000, "a", false, true},
		"999999999999999999/a/undo":     {mostSaga, "a", true, true},
		"1/\ufffd/do":                   {1, "\ufffd", false, true},
		"1/a-_0/do":                     {1, "a-_0", false, true},
		"1/" + goodNames[17] + "/do":    {1, goodNames[17], false, true},
		"1/" + goodNames[19] + "/undo":  {1, goodNames[19], true, true},
		"999999999/Z\U0010ffff9-/undo":  {999999999, "Z\U0010ffff9-", true, true},
		"1000000000000/undo/undo":       {1000000000000, "undo", true, true},
		"20/" + goodNames[20] + "/undo": {20, goodNames[20], true, true},
	} {
		if got := cut(t, key); got != want {
			t.Errorf("Cut(%q) = %v, not %v", key, got, want)
		}
	}
}

// P13.2, R3: texts that are none.
func TestCutOthers(t *testing.T) {
	numbers := []string{
		"", "00", "01", "007", "000000000000000001", "0000000000000000000", "+1", "-1", "+0", "-0", " 1", "1 ", "1\n", "1.", "1.0", "1e3", "0x1", "1_0", "a", "1a", "a1", ":", "/",
		"1000000000000000000", "1234567890123456789", "9223372036854775807", "9223372036854775808", "18446744073709551616", "9999999999999999999",
		"0000000000000000", "100000000000000000000000000000", strings.Repeat("1", 1<<16), strings.Repeat("0", 1<<16),
		"\u0661", "1\u0662", "\u0967", "\uff11", "1\uff10", "\u00b2", "\u2160", "\U0001d7cf", "\x00", "1\x00", "\xff", "1\xff", "\ufffd", "1\u00bd",
	}
	ways := []string{"", "Do", "DO", "dO", "UNDO", "Undo", "unDo", "did", "d", "o", "und", "ndo", "doo", "undoo", "dodo", "do ", " do", "do\n", "redo", "do\x00", "dо", "do/", "/do", "0", "true", "forward", "d\xff"}
	var rows []string
	for _, n := range numbers {
		rows = append(rows, n+"/a/do", n+"/a/undo")
	}
	for _, n := range badNames {
		rows = append(rows, "1/"+n+"/do", "0/"+n+"/undo")
	}
	for _, w := range ways {
		rows = append(rows, "1/a/"+w, "0/do/"+w)
	}
	rows = append(rows,
		"", "/", "//", "///", "1", "1/", "1//", "1/a", "1/a/", "a/do", "/a/do", "//do", "1//do", "1/do", "do", "undo", "a", "1/a/do/", "/1/a/do", "//1/a/do", "1/a/do//", "1//a/do", "1/a//do", "1/a/b/do",
		"1/a/do/do", "1/1/a/do", "1 /a/do", "1/a/do 2/b/do", "1/a/do\n", "\n1/a/do", "1\\a\\do", "1/a\\do", "1:a:do", "1-a-do", "a/1/do", "do/a/1", "1/do/a", "1/1/do", "0/0/do",
		"1\u2215a\u2215do", "1\xff/a/do", "1/a/do\xff", "\xff", "1/\xff/do", "\x00/a/do", strings.Repeat("/", 1<<16), "1/a/do"+strings.Repeat("/", 1<<16), strings.Repeat("1/a/do", 1000))
	for _, key := range rows {
		if got := cut(t, key); got != (parts{}) {
			t.Errorf("Cut(%.100q) = %v, not none", key, got)
		}
	}
}

// P13.2: all short texts made of pieces that are near to keys.
func TestCutShort(t *testing.T) {
	pieces := []string{"0", "1", "9", "/", "a", "do", "undo", "-", "é", "\xff"}
	found := 0
	var all func(head, tail string, more int)
	all = func(head, tail string, more int) {
		if cut(t, head+tail).ok {
			found++
		}
		if more == 0 {
			return
		}
		for _, p := range pieces {
			all(head+p, tail, more-1)
		}
	}
	all("", "", 5)
	if found != 3*4*2 {
		t.Errorf("%d keys of five pieces, not %d", found, 3*4*2)
	}
	for _, tail := range []string{"do", "undo", "/do", "/undo"} {
		for _, head := range []string{"", "/", "1/", "a/", "0"} {
			all(head, tail, 4)
		}
	}
}

// P13.2: each key with one byte more, one less, and one turned to each other one.
func TestCutTurned(t *testing.T) {
	for _, key := range []string{"0/a/do", "12/é/undo", "100000000000000000/a-1/do", "1/\ufffd/undo"} {
		cut(t, key)
		for i := range len(key) + 1 {
			for b := range 256 {
				cut(t, key[:i]+string([]byte{byte(b)})+key[i:])
				if i < len(key) {
					cut(t, key[:i]+string([]byte{byte(b)})+key[i+1:])
				}
			}
			if i < len(key) {
				cut(t, key[:i]+key[i+1:])
			}
			cut(t, key[:i])
			cut(t, key[i:])
		}
	}
}

// P13.2: numbers of each count of digits, of each digit at each place.
func TestCutNumbers(t *testing.T) {
	for digits := 1; digits <= 20; digits++ {
		for place := range digits {
			for digit := '0'; digit <= '9'; digit++ {
				text := []rune(strings.Repeat("7", digits))
				text[place] = digit
				got := cut(t, string(text)+"/a/do")
				if right := digits <= 18 && (digit != '0' || place > 0 || digits == 1); got.ok != right {
					t.Fatalf("%s: %v", string(text), got)
				}
			}
		}
	}
	for r := range rune(0x110000 + 1) {
		if _, _, _, ok := Cut("1" + string(r) + "/a/do"); ok != ('0' <= r && r <= '9') {
			t.Fatalf("%x: %t", r, ok)
		}
	}
}

// P13.3: the tick from which on a saga doesn't go forward.
func TestEnd(t *testing.T) {
	edges := []int{lowest, lowest + 1, -1 << 41, -end - 1, -end, -end + 1, -2, -1, 0, 1, 2, 10, 50, 1 << 32, end / 2, end/2 + 1, end - 2, end - 1, end, end + 1, end + 2, 1 << 41, highest - 1, highest}
	for _, deadline := range edges {
		for _, start := range edges {
			d := right(2)
			d.Deadline = deadline
			want := nearest(nearest(start) + nearest(deadline))
			if deadline == 0 {
				want = end + 1
			}
			if got := End(d, start); got != want {
				t.Errorf("End(deadline %d, %d) = %d, not %d", deadline, start, got, want)
			}
			if got := End(api.Def{Deadline: deadline}, start); got != want {
				t.Errorf("End(deadline %d, %d) without steps = %d, not %d", deadline, start, got, want)
			}
		}
	}
	m := mixer(3)
	for range 10_000 {
		deadline, start := m.far()%(end+2), m.far()%(end+2)
		want := min(start, end) + min(deadline, end)
		if want > end {
			want = end
		}
		if deadline == 0 {
			want = end + 1
		}
		if got := End(api.Def{Deadline: deadline}, start); got != want {
			t.Fatalf("End(deadline %d, %d) = %d, not %d", deadline, start, got, want)
		}
	}
}

// leaves are all numbers and texts of a value.
func leaves(v reflect.Value) []reflect.Value {
	var l []reflect.Value
	switch v.Kind() {
	case reflect.Struct:
		for i := range v.NumField() {
			l = append(l, leaves(v.Field(i))...)
		}
	case reflect.Slice:
		for i := range v.Len() {
			l = append(l, leaves(v.Index(i))...)
		}
	default:
		l = append(l, v)
	}
	return l
}

// change makes another number or text of one.
func change(v reflect.Value, way int) {
	if v.Kind() == reflect.String {
		s := v.String()
		v.SetString([]string{s + "x", "", strings.ToUpper(s), s[:len(s)-1] + "\x00"}[way])
		return
	}
	n := v.Int()
	v.SetInt([]int64{n + 1, n - 1, n + 1<<32, ^n}[way])
}

// same holds Same of both, in either order.
func same(t *testing.T, a, b api.Def, want bool) {
	t.Helper()
	if Same(a, b) != want || Same(b, a) != want {
		t.Fatalf("Same(%s, %s): %t, %t, not %t", tell(a), tell(b), Same(a, b), Same(b, a), want)
	}
}

// P13.3: equal definitions are the same, in memory of their own and not; those that differ in one field alone are not.
func TestSame(t *testing.T) {
	for _, n := range []int{0, 1, 3, mostSteps, mostSteps + 1} {
		d := right(n)
		same(t, d, d, true)
		same(t, d, right(n), true)
		same(t, d, copied(d), true)
		count := len(leaves(reflect.ValueOf(&d).Elem()))
		if count != 2+n*12 {
			t.Fatalf("%d fields of %d steps", count, n)
		}
		for i := range count {
			for way := range 4 {
				b := right(n)
				change(leaves(reflect.ValueOf(&b).Elem())[i], way)
				same(t, d, b, false)
				same(t, b, copied(b), true)
			}
		}
		for k := range n {
			b := right(n)
			b.Steps = b.Steps[:k]
			same(t, d, b, false)
			b = right(n)
			b.Steps = slices.Delete(b.Steps, k, k+1)
			same(t, d, b, false)
			b = right(n)
			b.Steps[k], b.Steps[n-1] = b.Steps[n-1], b.Steps[k]
			same(t, d, b, k == n-1)
			b = right(n)
			b.Steps = slices.Insert(b.Steps, k, b.Steps[k])
			same(t, d, b, false)
		}
		same(t, d, right(n+1), false)
	}
}

// P13.3, R3: a nil list of steps and one without elements are the same thing.
func TestSameEmpty(t *testing.T) {
	same(t, api.Def{}, api.Def{}, true)
	same(t, api.Def{Name: "a"}, api.Def{Name: "a", Steps: []api.Step{}}, true)
	same(t, api.Def{Name: "a", Steps: right(3).Steps[:0]}, api.Def{Name: "a", Steps: []api.Step{}}, true)
	same(t, api.Def{Name: "a", Steps: right(3).Steps[3:]}, api.Def{Name: "a"}, true)
	same(t, api.Def{Name: "a"}, api.Def{Name: "a", Steps: []api.Step{{}}}, false)
	same(t, api.Def{Name: "a"}, api.Def{Name: "b", Steps: []api.Step{}}, false)
	same(t, api.Def{Deadline: 1}, api.Def{Deadline: 2, Steps: []api.Step{}}, false)
}

// P13.3, R4: a definition in memory of its own: what is written over in either leaves the other as it was.
func TestOwn(t *testing.T) {
	for _, n := range []int{0, 1, 3, mostSteps, mostSteps + 1} {
		all := right(n + 2)
		d := all
		d.Steps = all.Steps[:n]
		own := Own(d)
		if own.Name != d.Name || own.Deadline != d.Deadline || !slices.Equal(own.Steps, d.Steps) {
			t.Fatalf("Own(%s) = %s", tell(d), tell(own))
		}
		same(t, d, own, true)
		for i := range leaves(reflect.ValueOf(&own).Elem()) {
			mine, other := Own(d), Own(d)
			change(leaves(reflect.ValueOf(&mine).Elem())[i], 0)
			same(t, all, right(n+2), true)
			same(t, d, other, true)
			same(t, d, mine, false)
		}
		grown := append(own.Steps, api.Step{Name: "x"}, api.Step{Name: "y"}, api.Step{Name: "z"})
		if len(grown) != n+3 || !Same(all, right(n+2)) {
			t.Fatal("what grew wrote over what lies behind the length")
		}
		own = Own(d)
		for i := range all.Steps {
			all.Steps[i] = api.Step{}
		}
		same(t, own, right(n), true)
	}
	if own := Own(api.Def{Name: "a", Steps: []api.Step{}}); own.Name != "a" || len(own.Steps) != 0 {
		t.Error(own)
	}
	if own := Own(api.Def{}); !Same(own, api.Def{}) {
		t.Error(own)
	}
}

// P13.4: Cut of Key is what it was made of.
func TestCutOfKey(t *testing.T) {
	m := mixer(4)
	sagas := []int{0, 1, 9, 10, 11, 99, 100, 1 << 31, 1 << 32, 1 << 53, 1<<53 + 1, end, end + 1, 99_999_999_999_999_999, 100_000_000_000_000_000, mostSaga - 1, mostSaga}
	for range 500 {
		sagas = append(sagas, m.far())
	}
	d := right(len(goodNames))
	for i, name := range goodNames {
		d.Steps[i].Name = name
	}
	check(t, d, -1, api.OK)
	for _, saga := range sagas {
		for i, step := range d.Steps {
			for _, undo := range []bool{false, true} {
				got := cut(t, key(t, saga, d, i, undo))
				if want := (parts{saga, step.Name, undo, true}); got != want {
					t.Fatalf("%v, not %v", got, want)
				}
			}
		}
	}
}

// P13.4: Key of Cut is the key.
func TestKeyOfCut(t *testing.T) {
	for _, k := range []string{"0/a/do", "12/é/undo", "999999999999999999/undo/undo", "10/do/do"} {
		p := cut(t, k)
		if got := key(t, p.saga, api.Def{Steps: []api.Step{{Name: p.step}}}, 0, p.undo); got != k {
			t.Errorf("%q, not %q", got, k)
		}
	}
}

// P13.4: commands that differ in the saga, the step or the way have keys that differ.
func TestKeysDiffer(t *testing.T) {
	d := right(len(goodNames))
	for i, name := range goodNames {
		d.Steps[i].Name = name
	}
	var sagas []int
	for n := range 300 {
		sagas = append(sagas, n)
	}
	for _, n := range []int{999, 1000, 1001, 10_000, 10_001, 1 << 32, 1<<32 + 1, end, mostSaga - 1, mostSaga} {
		sagas = append(sagas, n)
	}
	seen := map[string]parts{}
	for _, saga := range sagas {
		for i, step := range d.Steps {
			for _, undo := range []bool{false, true} {
				p := parts{saga, step.Name, undo, true}
				k := Key(saga, d, i, undo)
				if other, there := seen[k]; there {
					t.Fatalf("%v and %v have %q", p, other, k)
				}
				seen[k] = p
			}
		}
	}
}

// P1: whatever is asked, each call answers.
func TestAnyArguments(t *testing.T) {
	edges := []int{lowest, -end, -1, 0, 1, 16, 17, 32, 33, 255, 256, 1000, 1001, end, end + 1, highest}
	texts := []string{"", "a", "1", "/", "\xff", "a\x00", "\ufffd", strings.Repeat("é", 65), "1/a/do"}
	for _, n := range edges {
		for _, k := range edges {
			for _, text := range texts {
				p := api.Plan{Retries: n, Base: k, Factor: n, Cap: k}
				q := api.Plan{Retries: k, Base: n, Factor: k, Cap: n}
				s := api.Step{Name: text, Party: text, Timeout: n, Try: p, Undo: q, Prio: k}
				d := api.Def{Name: text, Deadline: n, Steps: []api.Step{s, s, {Name: "b", Party: "b", Timeout: k, Try: q, Undo: p, Prio: n}}}
				checkAny(t, d)
				d.Name, d.Deadline, d.Steps[0].Name = "a", 0, "c"
				checkAny(t, d)
				parties(t, d)
				key(t, n, d, k, true)
				key(t, n, d, k%3, false)
				End(d, k)
				same(t, d, Own(d), true)
				cut(t, fmt.Sprintf("%d/%s/%d", n, text, k))
				cut(t, text)
			}
		}
	}
	m := mixer(5)
	for range 20_000 {
		b := make([]byte, m.below(12))
		for i := range b {
			b[i] = "0127/ado-\xff\xc3\xa9undo/"[m.below(17)]
		}
		cut(t, string(b))
	}
}

func Example() {
	plan := api.Plan{Retries: 2, Base: 1, Factor: 2, Cap: 4}
	d := api.Def{Name: "order", Deadline: 50, Steps: []api.Step{
		{Name: "book", Party: "hotel", Timeout: 5, Try: plan, Undo: plan},
		{Name: "pay", Party: "bank", Timeout: 5, Try: plan, Undo: plan},
		{Name: "mail", Party: "hotel", Timeout: 1, Try: plan, Undo: plan},
	}}
	at, e := Check(d)
	fmt.Println(at, e == api.OK, Parties(d))
	fmt.Println(Key(7, d, 1, true), Key(7, d, 3, true) == "", Key(-1, d, 0, true) == "")
	fmt.Println(Cut("7/pay/undo"))
	fmt.Println(End(d, 10), End(api.Def{}, 10) == api.MaxTick+1)
	own := Own(d)
	own.Steps[2].Name = "pay"
	at, e = Check(own)
	fmt.Println(at, e == api.ErrThere, Same(d, own))
	// Output:
	// -1 true [hotel bank]
	// 7/pay/undo true true
	// 7 pay true true
	// 60 true
	// 2 true false
}
