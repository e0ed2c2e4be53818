package guard

import (
	"fmt"
	"math"
	"slices"
	"strings"
	"testing"

	"usufruct/api"
)

const (
	lowest    = math.MinInt
	highest   = math.MaxInt
	end       = 1 << 40 // the greatest tick
	mostSeats = 10_000
	mostCount = 1000 // the greatest trip, and the most probes
	all       = 64   // the most parties
)

var hows = []int{api.HowGood, api.HowBad, api.HowLost}

// mixer draws numbers by a rule, the same ones each time.
type mixer uint64

func (m *mixer) below(n int) int {
	*m = *m*6364136223846793005 + 1442695040888963407
	return int(uint64(*m)>>33) % n
}

// far draws a number of any of many sizes, from 0 up to the greatest tick.
func (m *mixer) far() int {
	size := 1 << m.below(41)
	return min((m.below(1<<20)<<20+m.below(1<<20))%size+m.below(3), end)
}

// nearest is the tick nearest to n.
func nearest(n int) int {
	return max(0, min(n, end))
}

// life is a party as the chapters' words tell it, its breaker with it.
type life struct {
	party                api.Party
	flying               int
	shut                 bool // its breaker was opened, and not closed since
	failures, until, out int
}

func (l *life) state(now int) int {
	switch {
	case !l.shut:
		return api.Closed
	case nearest(now) < l.until:
		return api.Open
	}
	return api.Half
}

func (l *life) may(now int) api.Errno {
	if l.flying >= l.party.Seats {
		return api.ErrFull
	}
	if s := l.state(now); s == api.Open || s == api.Half && l.out >= l.party.Probes {
		return api.ErrShut
	}
	return api.OK
}

func (l *life) send(now int) api.Errno {
	e := l.may(now)
	if e == api.OK {
		l.flying++
		if l.state(now) == api.Half {
			l.out++
		}
	}
	return e
}

func (l *life) over(now, how int) api.Errno {
	if !slices.Contains(hows, how) {
		return api.ErrKind
	}
	if l.flying <= 0 {
		return api.ErrState
	}
	l.flying--
	switch s := l.state(now); {
	case s == api.Open:
	case how == api.HowGood:
		l.shut, l.failures, l.out = false, 0, 0
	case how == api.HowLost:
		l.out = max(l.out-1, 0) // none is out of one that is closed
	case s == api.Half, l.failures == l.party.Trip-1:
		l.shut, l.failures, l.out = true, 0, 0
		l.until = nearest(nearest(now) + l.party.Cool)
	default:
		l.failures++
	}
	return api.OK
}

func (l *life) restore(flying int) api.Errno {
	if flying < 0 || flying > l.party.Seats {
		return api.ErrArg
	}
	*l = life{party: l.party, flying: flying}
	return api.OK
}

// pair is a guard and its parties' lives, to which the same is done.
type pair struct {
	t     *testing.T
	g     *Guard
	lives []*life
}

func newPair(t *testing.T, parties ...api.Party) pair {
	t.Helper()
	g, at, e := New(parties)
	if g == nil || at != -1 || e != api.OK {
		t.Fatalf("New(%v) = %v, %d, %d", parties, g, at, e)
	}
	p := pair{t: t, g: g}
	for _, party := range parties {
		p.lives = append(p.lives, &life{party: party})
	}
	return p
}

// live is the life of the party at a place, or nil.
func (p pair) live(place int) *life {
	if 0 <= place && place < len(p.lives) {
		return p.lives[place]
	}
	return nil
}

// tell is all that is known of the party at a place.
func (p pair) tell(place int) string {
	if l := p.live(place); l != nil {
		return fmt.Sprintf("place %d, %+v", place, *l)
	}
	return fmt.Sprintf("place %d of %d", place, len(p.lives))
}

// hold compares what a call answered.
func (p pair) hold(place int, call string, got, want api.Errno) {
	p.t.Helper()
	if got != want {
		p.t.Fatalf("%s: %s answers %d, not %d", p.tell(place), call, got, want)
	}
}

func (p pair) may(place, now int) {
	p.t.Helper()
	want := api.ErrNone
	if l := p.live(place); l != nil {
		want = l.may(now)
	}
	p.hold(place, "May", p.g.May(place, now), want)
}

func (p pair) send(place, now int) api.Errno {
	p.t.Helper()
	want := api.ErrNone
	if l := p.live(place); l != nil {
		want = l.send(now)
	}
	p.hold(place, "Send", p.g.Send(place, now), want)
	return want
}

func (p pair) over(place, now, how int) api.Errno {
	p.t.Helper()
	want := api.ErrNone
	if l := p.live(place); l != nil {
		want = l.over(now, how)
	}
	p.hold(place, "Over", p.g.Over(place, now, how), want)
	return want
}

func (p pair) restore(place, flying int) api.Errno {
	p.t.Helper()
	want := api.ErrNone
	if l := p.live(place); l != nil {
		want = l.restore(flying)
	}
	p.hold(place, "Restore", p.g.Restore(place, flying), want)
	return want
}

// sends lets so many go at a tick.
func (p pair) sends(place, now, count int) {
	p.t.Helper()
	for range count {
		p.send(place, now)
	}
}

// fail lets one go at a tick, which fails at once, so many times.
func (p pair) fail(place, now, count int) {
	p.t.Helper()
	for range count {
		p.send(place, now)
		p.over(place, now, api.HowBad)
	}
}

// places are all that there are, and some that there aren't.
func (p pair) places() []int {
	l := noPlaces(len(p.lives))
	for i := range p.lives {
		l = append(l, i)
	}
	return l
}

// noPlaces are places that there aren't among so many.
func noPlaces(count int) []int {
	return []int{lowest, lowest + 1, -count - 1, -2, -1, count, count + 1, count + all, 1 << 32, -1 << 32, highest - 1, highest}
}

// ticks are some at and beside both edges of all ticks and of the open time.
func (l *life) ticks() []int {
	return []int{0, 1, l.until - 1, l.until, l.until + 1, end - 1, end, -1, end + 1, lowest, highest}
}

// same asks the guard what it can tell of each place, twice: asking changes nothing.
func (p pair) same() {
	p.t.Helper()
	for range 2 {
		for _, place := range p.places() {
			p.samePlace(place)
		}
	}
}

func (p pair) samePlace(place int) {
	p.t.Helper()
	l, there := p.live(place), true
	if l == nil {
		l, there = &life{}, false
	}
	if party, ok := p.g.Party(place); party != l.party || ok != there {
		p.t.Fatalf("%s: Party is %v, %v", p.tell(place), party, ok)
	}
	if n := p.g.Flying(place); n != l.flying {
		p.t.Fatalf("%s: Flying is %d", p.tell(place), n)
	}
	for _, now := range l.ticks() {
		if s := p.g.State(place, now); s != l.state(now) {
			p.t.Fatalf("%s: State at %d is %d", p.tell(place), now, s)
		}
		p.may(place, now)
	}
}

// drain lets probes go, then has failures, so that each number which is kept comes out.
func (p pair) drain(place int) {
	p.t.Helper()
	l := p.live(place)
	now := max(l.until, 1)
	for range min(l.party.Probes, 40) + 1 {
		p.send(place, now)
		p.samePlace(place)
		if l.flying == l.party.Seats {
			p.over(place, now-1, api.HowBad) // ahead of the open time's end, so that only a seat is free again
		}
	}
	for l.flying > 0 {
		p.over(place, now, api.HowLost)
		p.samePlace(place)
	}
	for range min(l.party.Trip, 40) {
		p.fail(place, now, 1)
		p.samePlace(place)
	}
}

// party is one that is right.
func party(name string) api.Party {
	return api.Party{Name: name, Seats: 2, Trip: 2, Cool: 10, Probes: 1}
}

// parties are so many, of names that aren't alike.
func parties(count int) []api.Party {
	var l []api.Party
	for i := range count {
		l = append(l, api.Party{Name: fmt.Sprintf("p%d", i), Seats: 1 + i, Trip: 1 + i%5, Cool: i * 3, Probes: 1 + i%7})
	}
	return l
}

// wantNew holds what New answers.
func wantNew(t *testing.T, l []api.Party, at int, e api.Errno) {
	t.Helper()
	given := slices.Clone(l)
	g, gotAt, gotE := New(l)
	if gotAt != at || gotE != e || (g != nil) != (e == api.OK) {
		t.Errorf("New(%.300v) = %v, %d, %d; not %d, %d", fmt.Sprint(l), g != nil, gotAt, gotE, at, e)
	}
	if !slices.Equal(l, given) {
		t.Errorf("New wrote over %v: %v", given, l)
	}
	if g != nil && e == api.OK {
		wantParties(t, g, l)
	}
}

// wantParties holds which parties a guard has.
func wantParties(t *testing.T, g *Guard, l []api.Party) {
	t.Helper()
	if n := g.Len(); n != len(l) {
		t.Fatalf("Len() = %d, not %d", n, len(l))
	}
	for i, party := range l {
		if at := g.Find(party.Name); at != i {
			t.Errorf("Find(%q) = %d, not %d", party.Name, at, i)
		}
		if got, ok := g.Party(i); got != party || !ok {
			t.Errorf("Party(%d) = %v, %v; not %v", i, got, ok, party)
		}
	}
	for _, p := range noPlaces(len(l)) {
		if got, ok := g.Party(p); got != (api.Party{}) || ok {
			t.Errorf("Party(%d) of %d = %v, %v", p, len(l), got, ok)
		}
	}
}

// P12.1: New of no party, of few, of as many as there may be, and of more.
func TestNewCounts(t *testing.T) {
	wantNew(t, nil, -1, api.OK)
	wantNew(t, []api.Party{}, -1, api.OK)
	for _, count := range []int{1, 2, 3, 10, all - 1, all} {
		wantNew(t, parties(count), -1, api.OK)
	}
	for _, count := range []int{all + 1, all + 2, 2 * all, 1000} {
		wantNew(t, parties(count), all, api.ErrFull)
	}
}

// P12.1 and R2: of more than 64, that is told, whatever else is at fault.
func TestNewFullFirst(t *testing.T) {
	wantNew(t, make([]api.Party, all+1), all, api.ErrFull)
	for _, at := range []int{0, 1, all - 1, all} {
		for _, wrong := range []api.Party{{}, party(""), party("p5"), {Name: "a", Trip: 1, Probes: 1}} {
			l := parties(all + 1)
			l[at] = wrong
			wantNew(t, l, all, api.ErrFull)
		}
	}
	alike := slices.Repeat([]api.Party{party("a")}, all+1)
	wantNew(t, alike, all, api.ErrFull)
	wantNew(t, alike[:all], 1, api.ErrThere)
	wantNew(t, make([]api.Party, all), 0, api.ErrForm)
}

// P12.1: New of a party whose name is one, and is none.
func TestNewNames(t *testing.T) {
	for _, name := range []string{"a", "Z", "pay", "a1", "a_b-c", "é", "ж9", strings.Repeat("a", 64), strings.Repeat("é", 64), strings.Repeat("\U00010348", 64), "a" + strings.Repeat("-", 63)} {
		wantNew(t, []api.Party{party(name)}, -1, api.OK)
		wantNew(t, []api.Party{party("ahead"), party(name)}, -1, api.OK)
	}
	for _, name := range []string{"", "1", "1a", "_a", "-a", " ", " a", "a b", "a/b", "/", "a.", "a\x00", "\x00", "a\n", "a\x7f", "\xff", "a\xff", "\xc3", "a\xc3", "\xed\xa0\x80", strings.Repeat("a", 65), strings.Repeat("é", 65), strings.Repeat("a", 100000), "a" + strings.Repeat("-", 64)} {
		wantNew(t, []api.Party{party(name)}, 0, api.ErrForm)
		wantNew(t, []api.Party{party("ahead"), party(name)}, 1, api.ErrForm)
		wantNew(t, []api.Party{party(name), party(name)}, 0, api.ErrForm)
	}
}

// wantEdges holds New of a party with each of many numbers in one place, which is right from low to high.
func wantEdges(t *testing.T, low, high int, put func(party *api.Party, n int)) {
	t.Helper()
	for _, n := range []int{lowest, lowest + 1, -end, -mostSeats, -2, -1, 0, 1, 2, 3, 63, 64, 65, mostCount - 1, mostCount, mostCount + 1, mostSeats - 1, mostSeats, mostSeats + 1, 1 << 16, 1 << 32, 1<<32 + 1, end - 1, end, end + 1, 1<<62 + 1, highest - 1, highest} {
		one := party("pay")
		put(&one, n)
		e, at := api.OK, -1
		if n < low || n > high {
			e, at = api.ErrForm, 0
		}
		wantNew(t, []api.Party{one}, at, e)
		if e != api.OK {
			at = 2
		}
		wantNew(t, []api.Party{party("a"), party("b"), one, party("c")}, at, e)
	}
}

// P12.1: New of a party whose numbers are at both edges of what is right, and outside.
func TestNewNumbers(t *testing.T) {
	wantEdges(t, 1, mostSeats, func(party *api.Party, n int) { party.Seats = n })
	wantEdges(t, 1, mostCount, func(party *api.Party, n int) { party.Trip = n })
	wantEdges(t, 0, end, func(party *api.Party, n int) { party.Cool = n })
	wantEdges(t, 1, mostCount, func(party *api.Party, n int) { party.Probes = n })
	wantNew(t, []api.Party{{Name: "a", Seats: 1, Trip: 1, Cool: 0, Probes: 1}, {Name: "b", Seats: mostSeats, Trip: mostCount, Cool: end, Probes: mostCount}}, -1, api.OK)
}

// P12.1: a name that stands ahead already, at each place; names that are nearly alike aren't.
func TestNewAlike(t *testing.T) {
	for _, count := range []int{2, 3, 10, all} {
		for first := range count {
			for later := first + 1; later < count; later++ {
				l := parties(count)
				l[later].Name = l[first].Name
				wantNew(t, l, later, api.ErrThere)
			}
		}
	}
	wantNew(t, []api.Party{party("a"), party("b"), party("a"), party("b"), party("a")}, 2, api.ErrThere)
	long := strings.Repeat("a", 63)
	var l []api.Party
	for _, name := range []string{"a", "A", "aa", "aA", "a-", "a_", "a0", "b", long, long + "a", long + "b", "é", "e", "e\u0301", "\uff41"} {
		l = append(l, party(name))
	}
	wantNew(t, l, -1, api.OK)
}

// P12.1 and R2: of several at fault the first one's place; where both faults hold of one, ErrForm.
func TestNewFirstFault(t *testing.T) {
	worse := func(name string) api.Party { return api.Party{Name: name, Seats: 0, Trip: 1, Probes: 1} }
	for _, c := range []struct {
		l  []api.Party
		at int
		e  api.Errno
	}{
		{[]api.Party{party("a"), worse("a")}, 1, api.ErrForm},
		{[]api.Party{worse("a"), party("a")}, 0, api.ErrForm},
		{[]api.Party{worse("a"), worse("a")}, 0, api.ErrForm},
		{[]api.Party{party("a"), party("a"), worse("b")}, 1, api.ErrThere},
		{[]api.Party{party("a"), worse("b"), party("a")}, 1, api.ErrForm},
		{[]api.Party{party("a"), worse("b"), party("b")}, 1, api.ErrForm},
		{[]api.Party{party("a"), party("b"), party("b"), party("a")}, 2, api.ErrThere},
		{[]api.Party{party("a"), party("b"), {}, party("a")}, 2, api.ErrForm},
		{[]api.Party{{}, party("a"), party("a")}, 0, api.ErrForm},
	} {
		wantNew(t, c.l, c.at, c.e)
	}
}

// P12.1: all short lists out of few parties, right ones and wrong ones, against the chapter's words.
func TestNewShortLists(t *testing.T) {
	few := []struct {
		party api.Party
		good  bool
	}{
		{party("a"), true}, {api.Party{Name: "a", Seats: mostSeats, Trip: 7, Probes: 3}, true}, {party("b"), true},
		{api.Party{Name: "a", Seats: mostSeats + 1, Trip: 1, Probes: 1}, false}, {api.Party{Name: "b", Seats: 1, Trip: 1}, false}, {party("4"), false},
	}
	for length, rows := 0, 1; length <= 5; length, rows = length+1, rows*len(few) {
		for row := range rows {
			var l []api.Party
			at, e := -1, api.OK
			for i := range length {
				f := few[row%len(few)]
				row /= len(few)
				alike := slices.ContainsFunc(l, func(ahead api.Party) bool { return ahead.Name == f.party.Name })
				switch {
				case at != -1:
				case !f.good:
					at, e = i, api.ErrForm
				case alike:
					at, e = i, api.ErrThere
				}
				l = append(l, f.party)
			}
			wantNew(t, l, at, e)
		}
	}
}

// P12.1 and R4: parties are kept by their values, and what lies behind a list's length is neither read nor written.
func TestNewKeepsValues(t *testing.T) {
	l := parties(4)
	g, _, _ := New(l)
	for i := range l {
		l[i] = api.Party{Name: "other", Seats: 5}
	}
	wantParties(t, g, parties(4))
	if g.Find("other") != -1 {
		t.Error("a party that was written over the list is found")
	}
	for i, party := range parties(4) {
		for sent := range party.Seats {
			if e := g.Send(i, 1); e != api.OK {
				t.Errorf("%d: Send %d = %d", i, sent, e)
			}
		}
		if e := g.Send(i, 1); e != api.ErrFull {
			t.Errorf("%d: behind all seats Send = %d", i, e)
		}
	}

	l = []api.Party{party("a"), {Name: "1"}, party("a")}
	g, at, e := New(l[:1])
	if e != api.OK || at != -1 {
		t.Fatalf("New read behind the list: %d, %d", at, e)
	}
	wantParties(t, g, l[:1])
	if l[1] != (api.Party{Name: "1"}) || l[2] != party("a") {
		t.Error("New wrote behind the list")
	}
	got, _ := g.Party(0)
	got.Name, got.Seats = "b", 9
	wantParties(t, g, l[:1])
}

// P12.1: Find of names that are there, of such as aren't, and of texts that are no names.
func TestFind(t *testing.T) {
	g, _, _ := New([]api.Party{party("pay"), party("Pay"), party("pa"), party("é")})
	for name, want := range map[string]int{"pay": 0, "Pay": 1, "pa": 2, "é": 3, "": -1, "p": -1, "payy": -1, "PAY": -1, "pay ": -1, " pay": -1, "pay\x00": -1, "\xc3": -1, "é\xff": -1, "e\u0301": -1, "0": -1, strings.Repeat("pay", 100000): -1} {
		if at := g.Find(name); at != want {
			t.Errorf("Find(%.20q) = %d, not %d", name, at, want)
		}
	}
	none, _, _ := New(nil)
	for _, name := range []string{"", "a", "pay", "\xff"} {
		if at := none.Find(name); at != -1 {
			t.Errorf("Find(%q) of no party = %d", name, at)
		}
	}
}

// P12.2 and P12.3: at a place that is none each call says so, whatever else is at fault, and nothing is changed.
func TestNoPlace(t *testing.T) {
	for _, count := range []int{0, 1, 2, all} {
		p := newPair(t, parties(count)...)
		for i := range count {
			p.sends(i, 3, 1)
		}
		for _, place := range noPlaces(count) {
			for _, n := range []int{lowest, -1, 0, 1, 2, 3, end, end + 1, highest} {
				if e := p.g.May(place, n); e != api.ErrNone {
					t.Errorf("May(%d, %d) = %d", place, n, e)
				}
				if e := p.g.Send(place, n); e != api.ErrNone {
					t.Errorf("Send(%d, %d) = %d", place, n, e)
				}
				if e := p.g.Restore(place, n); e != api.ErrNone {
					t.Errorf("Restore(%d, %d) = %d", place, n, e)
				}
				for _, how := range []int{lowest, -1, 0, 1, 2, 3, highest} {
					if e := p.g.Over(place, n, how); e != api.ErrNone {
						t.Errorf("Over(%d, %d, %d) = %d", place, n, how, e)
					}
				}
				if f, s := p.g.Flying(place), p.g.State(place, n); f != 0 || s != api.Closed {
					t.Errorf("at %d: Flying %d, State %d", place, f, s)
				}
			}
		}
		p.same()
	}
}

// P12.2 and P12.4: as many go as there are seats, and no more; each one that is over frees a seat.
func TestSeats(t *testing.T) {
	for _, seats := range []int{1, 2, 3, 100, mostSeats - 1, mostSeats} {
		for _, how := range hows {
			p := newPair(t, api.Party{Name: "pay", Seats: seats, Trip: mostCount, Cool: 10, Probes: 1}, party("other"))
			for sent := range seats {
				if p.send(0, sent) != api.OK || p.g.Flying(0) != sent+1 {
					t.Fatalf("%d seats: behind %d more: %d", seats, sent, p.g.Flying(0))
				}
			}
			for range 3 {
				if e := p.send(0, 5); e != api.ErrFull {
					t.Errorf("%d seats, all taken: %d", seats, e)
				}
				p.same()
			}
			p.over(0, 5, how)
			p.same()
			if a, b := p.send(0, 5), p.send(0, 5); a != api.OK || b != api.ErrFull {
				t.Errorf("%d seats, one free: %d, %d", seats, a, b)
			}
			if p.g.Flying(0) != seats || p.g.Flying(1) != 0 {
				t.Errorf("%d seats: %d and %d in flight", seats, p.g.Flying(0), p.g.Flying(1))
			}
		}
	}
}

// shutPair is one party whose breaker is open from 5 to 15, with so many more in flight.
func shutPair(t *testing.T, seats, probes, flying int) pair {
	t.Helper()
	p := newPair(t, api.Party{Name: "pay", Seats: seats, Trip: 3, Cool: 10, Probes: probes}, party("other"))
	p.sends(0, 1, flying)
	p.fail(0, 5, 3)
	if s := p.g.State(0, 14); s != api.Open {
		t.Fatalf("State(0, 14) = %d", s)
	}
	return p
}

// P12.2 and P12.4: with its breaker open ErrShut, with all seats taken as well ErrFull; neither changes anything.
func TestOpen(t *testing.T) {
	for _, now := range []int{lowest, -1, 0, 5, 14} {
		p := shutPair(t, 3, 1, 2)
		if p.g.May(0, now) != api.ErrShut || p.g.Send(0, now) != api.ErrShut || p.g.Flying(0) != 2 {
			t.Errorf("at %d: May %d, %d in flight", now, p.g.May(0, now), p.g.Flying(0))
		}
		p.same()
		p.drain(0)

		p = newPair(t, api.Party{Name: "pay", Seats: 3, Trip: 1, Cool: 10, Probes: 1})
		p.sends(0, 1, 3)
		p.over(0, 5, api.HowBad)
		p.sends(0, 15, 1)
		if p.g.State(0, now) != api.Open || p.g.May(0, now) != api.ErrFull || p.g.Send(0, now) != api.ErrFull || p.g.Flying(0) != 3 {
			t.Errorf("full and open at %d: May %d, %d in flight", now, p.g.May(0, now), p.g.Flying(0))
		}
		p.same()
		p.drain(0)
	}
}

// P12.2: half-open, as many go as there may be probes out, and no more; each counts as a probe.
func TestHalfOpen(t *testing.T) {
	for _, probes := range []int{1, 2, 5, mostCount} {
		for _, now := range []int{15, 16, end, end + 1, highest} {
			p := shutPair(t, mostSeats, probes, 7)
			for sent := range probes {
				if e := p.send(0, now); e != api.OK || p.g.Flying(0) != 8+sent {
					t.Fatalf("probe %d of %d at %d: %d, %d in flight", sent, probes, now, e, p.g.Flying(0))
				}
			}
			for range 3 {
				if m, e := p.g.May(0, now), p.send(0, now); m != api.ErrShut || e != api.ErrShut {
					t.Errorf("behind %d probes: May %d, Send %d", probes, m, e)
				}
			}
			p.same()
			p.over(0, now, api.HowLost)
			if a, b := p.send(0, now), p.send(0, now); a != api.OK || b != api.ErrShut {
				t.Errorf("behind a lost one of %d probes: %d, %d", probes, a, b)
			}
			p.same()
		}
	}
	p := shutPair(t, 2, 5, 0)
	if a, b, c := p.send(0, 15), p.send(0, 15), p.send(0, 15); a != api.OK || b != api.OK || c != api.ErrFull {
		t.Errorf("two seats, five probes: %d, %d, %d", a, b, c)
	}
	p.drain(0)
}

// P12.2 and R5: May changes nothing in any state, nor does a Send, an Over or a Restore that is refused.
func TestRefusedChangesNothing(t *testing.T) {
	for flying := range 4 {
		for _, now := range []int{lowest, 0, 14, 15, 16, end, highest} {
			for _, sent := range []int{0, 1, 2} {
				p := shutPair(t, 4, 2, flying)
				p.sends(0, 15, sent)
				kept, parts := *p.g.gates[0].Breaker, p.g.gates[0]
				for range 9 {
					p.may(0, now)
				}
				if p.lives[0].may(now) != api.OK {
					p.sends(0, now, 3)
				}
				for _, how := range []int{lowest, -2, -1, 3, 4, highest} {
					p.over(0, now, how)
				}
				if p.lives[0].flying == 0 {
					p.over(0, now, flying%3)
				}
				for _, wrong := range []int{lowest, -1, 5, highest} {
					p.restore(0, wrong)
				}
				if *p.g.gates[0].Breaker != kept || p.g.gates[0] != parts {
					t.Fatalf("%s: %v, not %v", p.tell(0), p.g.gates[0], parts)
				}
				p.same()
				p.drain(0)
			}
		}
	}
}

// P12.2 and R2: Over's errors, one by one and together: ErrNone, ErrKind, ErrState.
func TestOverErrors(t *testing.T) {
	for _, c := range []struct {
		flying, place, how int
		e                  api.Errno
	}{
		{1, 0, 0, api.OK}, {1, 0, 1, api.OK}, {1, 0, 2, api.OK}, {2, 0, 2, api.OK},
		{1, 0, -1, api.ErrKind}, {1, 0, 3, api.ErrKind}, {1, 0, 4, api.ErrKind}, {1, 0, lowest, api.ErrKind}, {1, 0, highest, api.ErrKind}, {1, 0, 1 << 32, api.ErrKind},
		{0, 0, 0, api.ErrState}, {0, 0, 1, api.ErrState}, {0, 0, 2, api.ErrState},
		{0, 0, -1, api.ErrKind}, {0, 0, 3, api.ErrKind}, {0, 0, lowest, api.ErrKind}, {0, 0, highest, api.ErrKind},
		{1, 1, 0, api.ErrNone}, {1, 1, 3, api.ErrNone}, {0, 1, 3, api.ErrNone}, {0, -1, -1, api.ErrNone}, {0, 1, 0, api.ErrNone}, {1, -1, 1, api.ErrNone},
	} {
		for _, now := range []int{lowest, -1, 0, 7, end, end + 1, highest} {
			p := newPair(t, party("pay"))
			p.sends(0, 3, c.flying)
			if e := p.over(c.place, now, c.how); e != c.e {
				t.Errorf("%v at %d: %d", c, now, e)
			}
			left := c.flying
			if c.e == api.OK {
				left--
			}
			if n := p.g.Flying(0); n != left {
				t.Errorf("%v at %d: %d in flight", c, now, n)
			}
			p.same()
			p.drain(0)
		}
	}
}

// P12.2: so many failures one behind the other open its breaker; a success between sets them back; a lost one doesn't.
func TestOverTrips(t *testing.T) {
	for _, trip := range []int{1, 2, 3, 10, mostCount} {
		for _, between := range []int{api.HowGood, api.HowLost} {
			p := newPair(t, api.Party{Name: "pay", Seats: 1, Trip: trip, Cool: 10, Probes: 1})
			p.fail(0, 2, trip-1)
			p.send(0, 2)
			p.over(0, 2, between)
			if between == api.HowGood {
				p.fail(0, 2, trip-1)
			}
			if s := p.g.State(0, 2); s != api.Closed {
				t.Errorf("trip %d: state %d behind too few", trip, s)
			}
			p.fail(0, 2, 1)
			if s, may := p.g.State(0, 2), p.g.May(0, 11); s != api.Open || may != api.ErrShut {
				t.Errorf("trip %d: state %d, May %d", trip, s, may)
			}
			if s, may := p.g.State(0, 12), p.g.May(0, 12); s != api.Half || may != api.OK {
				t.Errorf("trip %d behind the open time: state %d, May %d", trip, s, may)
			}
			p.same()
			p.drain(0)
		}
	}
}

// P12.2: what is over while the breaker is open frees a seat and says nothing of the breaker.
func TestOverOpen(t *testing.T) {
	for _, how := range hows {
		p := shutPair(t, 4, 2, 3)
		p.send(0, 15)
		for left := 3; left >= 0; left-- {
			p.over(0, 14, how)
			if p.g.Flying(0) != left || p.g.State(0, 14) != api.Open {
				t.Errorf("%d in flight, state %d", p.g.Flying(0), p.g.State(0, 14))
			}
		}
		if a, b := p.send(0, 15), p.send(0, 15); a != api.OK || b != api.ErrShut {
			t.Errorf("how %d: the probe that is out: %d, %d", how, a, b)
		}
		p.drain(0)
	}
}

// P12.2: half-open, a success closes it, a failure opens it again, a lost one makes room for a further probe.
func TestOverHalf(t *testing.T) {
	for _, c := range []struct{ how, state, until int }{{api.HowGood, api.Closed, 0}, {api.HowBad, api.Open, 30}, {api.HowLost, api.Half, 15}} {
		p := shutPair(t, 9, 2, 1)
		p.sends(0, 15, 2)
		p.over(0, 20, c.how)
		if s := p.g.State(0, 20); s != c.state || p.g.Flying(0) != 2 {
			t.Errorf("how %d: state %d, %d in flight", c.how, s, p.g.Flying(0))
		}
		if c.state == api.Open && (p.g.State(0, c.until-1) != api.Open || p.g.State(0, c.until) != api.Half) {
			t.Errorf("how %d: not open until %d", c.how, c.until)
		}
		p.same()
		p.drain(0)
	}
}

// P12.2: ticks that fall, below 0 and beyond MaxTick are taken as the nearest ones.
func TestTicks(t *testing.T) {
	for _, at := range []int{lowest, -1, 0, 1, end - 11, end - 10, end - 1, end, end + 1, highest} {
		p := newPair(t, api.Party{Name: "pay", Seats: 3, Trip: 1, Cool: 10, Probes: 2})
		p.fail(0, at, 1)
		until := min(nearest(at)+10, end)
		for _, now := range []int{lowest, -1, 0, until - 1, until, until + 1, end, end + 1, highest} {
			e := api.OK
			if nearest(now) < until {
				e = api.ErrShut
			}
			if may := p.g.May(0, now); may != e {
				t.Errorf("a failure at %d, May at %d: %d", at, now, may)
			}
		}
		p.send(0, until)
		p.send(0, until-1)
		p.over(0, until-1, api.HowBad)
		p.same()
		p.send(0, highest)
		p.over(0, lowest, api.HowLost)
		p.over(0, highest, api.HowGood)
		p.same()
		p.drain(0)
	}
}

// P12.3: Flying and State behind each kind of call, of each party by itself.
func TestFlyingAndState(t *testing.T) {
	p := newPair(t, api.Party{Name: "pay", Seats: 3, Trip: 2, Cool: 10, Probes: 1}, party("ship"))
	want := func(what string, now, flying, state int) {
		t.Helper()
		if n, s := p.g.Flying(0), p.g.State(0, now); n != flying || s != state {
			t.Errorf("%s: %d in flight, state %d; not %d, %d", what, n, s, flying, state)
		}
		if n, s := p.g.Flying(1), p.g.State(1, now); n != 0 || s != api.Closed {
			t.Errorf("%s: the other party: %d in flight, state %d", what, n, s)
		}
		p.same()
	}
	want("new", 0, 0, api.Closed)
	p.send(0, 1)
	want("sent", 1, 1, api.Closed)
	p.sends(0, 1, 3)
	want("all seats taken", 1, 3, api.Closed)
	p.over(0, 2, api.HowBad)
	want("a failure", 2, 2, api.Closed)
	p.over(0, 2, 7)
	want("no kind", 2, 2, api.Closed)
	p.over(0, 3, api.HowBad)
	want("tripped", 3, 1, api.Open)
	want("its last open tick", 12, 1, api.Open)
	want("behind the open time", 13, 1, api.Half)
	p.send(0, 12)
	want("refused", 12, 1, api.Open)
	p.send(0, 13)
	want("a probe", 13, 2, api.Half)
	p.over(0, 14, api.HowLost)
	want("lost", 14, 1, api.Half)
	p.over(0, 14, api.HowGood)
	want("closed", 14, 0, api.Closed)
	p.over(0, 14, api.HowGood)
	want("none in flight", 14, 0, api.Closed)
	p.restore(0, 2)
	want("restored", 14, 2, api.Closed)
	p.restore(0, 4)
	want("not restored", 14, 2, api.Closed)
}

// ways leads the party at place 0 into each state.
var ways = []struct {
	what string
	lead func(p pair)
}{
	{"new", func(p pair) {}},
	{"closed, with a failure", func(p pair) { p.sends(0, 1, 2); p.over(0, 1, api.HowBad) }},
	{"open", func(p pair) { p.sends(0, 5, 3); p.over(0, 5, api.HowBad); p.over(0, 5, api.HowBad) }},
	{"half-open", func(p pair) { p.fail(0, 5, 2); p.send(0, 15) }},
	{"half-open, all probes out", func(p pair) { p.fail(0, 5, 2); p.sends(0, 15, 2) }},
	{"closed again", func(p pair) { p.fail(0, 5, 2); p.sends(0, 15, 2); p.over(0, 16, api.HowGood) }},
	{"restored", func(p pair) { p.fail(0, 5, 2); p.restore(0, 1) }},
}

// P12.3: Restore outside 0 to Seats is ErrArg and changes nothing; inside, so many are in flight, and the breaker is a new one.
func TestRestore(t *testing.T) {
	for _, way := range ways {
		for _, seats := range []int{3, 4, mostSeats} {
			for _, flying := range []int{lowest, lowest + 1, -seats, -1, 0, 1, 2, seats - 1, seats, seats + 1, seats + 2, 1 << 32, end, highest} {
				p := newPair(t, api.Party{Name: "pay", Seats: seats, Trip: 2, Cool: 10, Probes: 2}, party("ship"), party("post"))
				way.lead(p)
				p.fail(1, 3, 2)
				p.send(2, 3)
				was := p.g.Flying(0)
				e := p.restore(0, flying)
				if right := 0 <= flying && flying <= seats; right != (e == api.OK) || !right && (e != api.ErrArg || p.g.Flying(0) != was) {
					t.Fatalf("%s: Restore(0, %d) of %d seats = %d, %d in flight", way.what, flying, seats, e, p.g.Flying(0))
				} else if right {
					wantRestored(t, p, flying)
				}
				p.same()
				p.drain(0)
			}
		}
	}
}

// wantRestored holds that so many are in flight at place 0, by a breaker that is new.
func wantRestored(t *testing.T, p pair, flying int) {
	t.Helper()
	l := p.live(0)
	for _, now := range []int{lowest, 0, 5, 14, 15, 16, end, highest} {
		if n, s := p.g.Flying(0), p.g.State(0, now); n != flying || s != api.Closed {
			t.Fatalf("%d in flight, state %d at %d; not %d, closed", n, s, now, flying)
		}
	}
	if flying == l.party.Seats {
		p.hold(0, "Send", p.send(0, 20), api.ErrFull)
		p.over(0, 20, api.HowLost)
	}
	p.fail(0, 20, 1)
	if s := p.g.State(0, 20); s != api.Closed {
		t.Fatalf("state %d behind one failure: an earlier one is kept", s)
	}
	p.fail(0, 20, 1)
	if s := p.g.State(0, 29); s != api.Open {
		t.Fatalf("state %d behind two failures", s)
	}
	room := min(l.party.Probes, l.party.Seats-p.g.Flying(0))
	for sent := range room + 1 {
		if e := p.send(0, 30); (e == api.OK) != (sent < room) {
			t.Fatalf("probe %d: %d", sent, e)
		}
	}
}

// P12.3: restored to each number, as many are over as were in flight, and no more; and as many go as there is room for.
func TestRestoreThenOver(t *testing.T) {
	for flying := range 6 {
		for _, how := range hows {
			p := newPair(t, api.Party{Name: "pay", Seats: 5, Trip: 100, Cool: 10, Probes: 1})
			p.restore(0, flying)
			for left := flying - 1; left >= 0; left-- {
				if e := p.over(0, 7, how); e != api.OK || p.g.Flying(0) != left {
					t.Errorf("%d left: %d, %d in flight", left, e, p.g.Flying(0))
				}
			}
			if e := p.over(0, 7, how); e != api.ErrState {
				t.Errorf("none left: %d", e)
			}
			p.restore(0, flying)
			for sent := flying; sent < 5; sent++ {
				p.hold(0, "Send", p.send(0, 8), api.OK)
			}
			p.hold(0, "Send", p.send(0, 8), api.ErrFull)
			p.same()
		}
	}
}

// P12.4: the chapter's example: one seat: Send, then May: ErrFull.
func TestChapterExample(t *testing.T) {
	g, _, _ := New([]api.Party{{Name: "pay", Seats: 1, Trip: 1, Cool: 10, Probes: 1}})
	if e := g.Send(0, 1); e != api.OK {
		t.Errorf("Send = %d", e)
	}
	if e := g.May(0, 1); e != api.ErrFull {
		t.Errorf("May = %d", e)
	}
}

// fewCalls are calls of one party at ticks that lie near and far.
func fewCalls(at, cool int) []func(p pair) {
	l := []func(p pair){func(p pair) { p.restore(0, 0) }, func(p pair) { p.restore(0, 1) }}
	for _, now := range []int{at, nearest(at + cool - 1), nearest(at + cool)} {
		l = append(l, func(p pair) { p.send(0, now) })
		for _, how := range hows {
			l = append(l, func(p pair) { p.over(0, now, how) })
		}
	}
	return l
}

// P12.2 to P12.4: all short rows of calls out of few, in any order of their ticks.
func TestShortRows(t *testing.T) {
	for _, c := range []struct {
		party  api.Party
		length int
	}{
		{api.Party{Name: "a", Seats: 2, Trip: 1, Cool: 10, Probes: 1}, 4},
		{api.Party{Name: "a", Seats: 1, Trip: 1, Cool: 10, Probes: 1}, 3},
		{api.Party{Name: "a", Seats: 3, Trip: 1, Cool: 10, Probes: 2}, 3},
		{api.Party{Name: "a", Seats: 2, Trip: 2, Cool: 0, Probes: 1}, 3},
		{api.Party{Name: "a", Seats: 3, Trip: 1, Cool: end, Probes: 1}, 3},
	} {
		few := fewCalls(5, c.party.Cool)
		rows := 1
		for range c.length {
			rows *= len(few)
		}
		for row := range rows {
			p := newPair(t, c.party)
			p.send(0, 5)
			for range c.length {
				few[row%len(few)](p)
				row /= len(few)
			}
			p.samePlace(0)
			p.drain(0)
		}
	}
}

// drawn is a party with numbers of many sizes.
func (m *mixer) drawn(name string) api.Party {
	return api.Party{Name: name, Seats: 1 + m.below(1+m.below(12)), Trip: 1 + m.below(1+m.below(6)), Cool: m.below(1 + m.below(40)), Probes: 1 + m.below(1+m.below(5))}
}

// step is a drawn call of a party at a tick.
func (p pair) step(m *mixer, place, now int) {
	p.t.Helper()
	switch m.below(40) {
	case 0:
		p.restore(place, m.below(14)-1)
	case 1:
		p.over(place, now, m.below(7)-2)
	case 2, 3, 4, 5, 6, 7, 8, 9, 10, 11:
		p.over(place, now, api.HowBad)
	case 12, 13, 14, 15:
		p.over(place, now, api.HowLost)
	case 16, 17, 18, 19:
		p.over(place, now, api.HowGood)
	default:
		p.send(place, now)
	}
}

// P12.4: drawn rows of sends, ends and restores, at ticks that rise and at any: never more in flight than seats, never fewer than 0, and nothing goes while open.
func TestDrawn(t *testing.T) {
	m := mixer(12)
	var sent, full, shut int
	for round := range 150 {
		var l []api.Party
		for i := range 1 + m.below(5) {
			l = append(l, m.drawn(fmt.Sprintf("p%d", i)))
		}
		p := newPair(t, l...)
		now := []int{0, m.far(), end - 300}[round%3]
		for range 300 {
			now = nearest(now + m.below(6))
			if round%2 == 0 && m.below(5) == 0 {
				now = []int{0, m.far(), lowest, highest, now - 7}[m.below(5)]
			}
			place := m.below(len(l)+2) - 1
			switch p.g.May(place, now) {
			case api.OK:
				sent++
			case api.ErrFull:
				full++
			case api.ErrShut:
				shut++
			}
			p.wantBounds(&m, place, now)
			for _, at := range p.places() {
				p.samePlace(at)
			}
		}
		for place := range l {
			p.drain(place)
		}
	}
	if min(sent, full, shut) < 3000 {
		t.Errorf("%d may go, %d are full, %d are shut", sent, full, shut)
	}
}

// wantBounds sends one and has drawn calls, and holds what P12.4 says, by what the guard itself tells.
func (p pair) wantBounds(m *mixer, place, now int) {
	p.t.Helper()
	was, state := p.g.Flying(place), p.g.State(place, now)
	e := p.send(place, now)
	flying := p.g.Flying(place)
	if e == api.OK && (state == api.Open || flying != was+1) || e != api.OK && flying != was {
		p.t.Fatalf("%s: Send at %d = %d, state %d, %d in flight, not %d", p.tell(place), now, e, state, flying, was)
	}
	if m.below(3) > 0 {
		p.over(place, now, m.below(3))
	}
	p.step(m, place, now)
	if party, ok := p.g.Party(place); ok && (p.g.Flying(place) < 0 || p.g.Flying(place) > party.Seats) {
		p.t.Fatalf("%s: %d in flight", p.tell(place), p.g.Flying(place))
	}
}

// P12.1 to P12.4: guards have nothing in common, nor have parties of like numbers.
func TestApart(t *testing.T) {
	m := mixer(5)
	l := []api.Party{party("a"), party("b"), party("c")}
	one, other := newPair(t, l...), newPair(t, l...)
	for now := range 200 {
		one.step(&m, m.below(3), now)
		other.step(&m, m.below(3), now)
		one.same()
		other.same()
	}
}

// P1: whatever is asked, each call answers: edges of all numbers, in each pairing.
func TestAnyArguments(t *testing.T) {
	edges := []int{lowest, lowest + 1, -end, -1, 0, 1, 2, 3, mostCount, mostSeats, mostSeats + 1, 1 << 32, end - 1, end, end + 1, highest - 1, highest}
	for _, seats := range edges {
		for _, n := range edges {
			for _, name := range []string{"", "a", "\xff", "a\x00", strings.Repeat("a", 65)} {
				New([]api.Party{{Name: name, Seats: seats, Trip: n, Cool: seats, Probes: n}, {Name: name, Seats: n, Trip: seats, Cool: n, Probes: seats}})
			}
		}
	}
	p := newPair(t, party("a"), api.Party{Name: "b", Seats: mostSeats, Trip: mostCount, Cool: end, Probes: mostCount})
	for _, place := range edges {
		for _, now := range edges {
			p.send(place, now)
			p.send(place, now)
			for _, n := range edges {
				p.over(place, now, n)
				p.may(place, n)
				p.restore(place, n)
				p.samePlace(place)
			}
		}
	}
}

func ExampleGuard() {
	g, _, e := New([]api.Party{{Name: "pay", Seats: 1, Trip: 1, Cool: 10, Probes: 1}})
	pay := g.Find("pay")
	fmt.Println(e == api.OK, pay, g.Find("ship"))
	fmt.Println(g.Send(pay, 1) == api.OK, g.May(pay, 1) == api.ErrFull)
	fmt.Println(g.Over(pay, 5, api.HowBad) == api.OK, g.Flying(pay), g.State(pay, 5) == api.Open)
	fmt.Println(g.Send(pay, 14) == api.ErrShut, g.Send(pay, 15) == api.OK)
	fmt.Println(g.Restore(pay, 0) == api.OK, g.State(pay, 5) == api.Closed)
	// Output:
	// true 0 -1
	// true true
	// true 0 true
	// true true
	// true true
}
