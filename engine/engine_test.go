package engine

import (
	"fmt"
	"math"
	"reflect"
	"slices"
	"strconv"
	"strings"
	"testing"

	"usufruct/api"
	"usufruct/journal"
	"usufruct/state"
	"usufruct/store"
)

const (
	lowest     = math.MinInt
	highest    = math.MaxInt
	lastTick   = 1 << 40
	mostSagas  = 65536
	mostAgeing = 1 << 20
	room       = 1 << 20 // bytes of a test's store
	recordSize = 37      // bytes of the record of an event that is a kind, a tick and a saga alone
)

// mixer draws numbers by a rule, the same ones each time.
type mixer uint64

func (m *mixer) below(n int) int {
	*m = *m*6364136223846793005 + 1442695040888963407
	return int(uint64(*m)>>33) % n
}

// pick draws one of a list.
func pick[T any](m *mixer, l ...T) T {
	return l[m.below(len(l))]
}

// tell is anything, cut short where it is long, without bytes that are no rune's.
func tell(x any) string {
	s := strconv.QuoteToASCII(fmt.Sprintf("%+v", x))
	return s[:min(len(s), 2500)]
}

// plan is a plan of so many retries, whose waits are 2, 4, 8, 8.
func plan(retries int) api.Plan {
	return api.Plan{Retries: retries, Base: 2, Factor: 2, Cap: 8}
}

// trip is a definition of two steps.
func trip() api.Def {
	return api.Def{Name: "trip", Deadline: 20, Steps: []api.Step{
		{Name: "book", Party: "hotel", Timeout: 5, Try: plan(1), Undo: plan(1)},
		{Name: "pay", Party: "bank", Timeout: 3, Try: plan(1), Undo: plan(0), Prio: 7},
	}}
}

// free is trip without an end.
func free() api.Def {
	d := trip()
	d.Name, d.Deadline = "free", 0
	return d
}

// one is a definition of one step, without an end.
func one(name, party string, prio int) api.Def {
	return api.Def{Name: name, Steps: []api.Step{{Name: "do", Party: party, Timeout: 5, Try: plan(3), Undo: plan(0), Prio: prio}}}
}

// hotelAndBank are parties: the hotel is left alone behind three failures, the bank behind one.
func hotelAndBank() []api.Party {
	return []api.Party{{Name: "hotel", Seats: 2, Trip: 3, Cool: 10, Probes: 1}, {Name: "bank", Seats: 1, Trip: 1, Cool: 10, Probes: 1}}
}

// roomy are parties whose seats and failures don't count.
func roomy() []api.Party {
	return []api.Party{{Name: "hotel", Seats: 100, Trip: 1000, Cool: 1, Probes: 1}, {Name: "bank", Seats: 100, Trip: 1000, Cool: 1, Probes: 1}}
}

func define(d api.Def) api.Event {
	return api.Event{Kind: api.EvDefine, Def: d}
}

func start(now, id int, name string) api.Event {
	return api.Event{Kind: api.EvStart, Now: now, Saga: id, Name: name}
}

func act(kind, now, id int) api.Event {
	return api.Event{Kind: kind, Now: now, Saga: id}
}

func answer(now int, r api.Reply) api.Event {
	return api.Event{Kind: api.EvReply, Now: now, Saga: r.Saga, Reply: r}
}

// rig is an engine, with what it is made of.
type rig struct {
	*Engine
	t       *testing.T
	s       *store.Store
	j       *journal.Journal
	parties []api.Party
	seen    int // how many events were told
}

// keep is a journal in which those events were done.
func keep(t *testing.T, events ...api.Event) (*store.Store, *journal.Journal) {
	t.Helper()
	s := store.New(room)
	j, e := journal.Open(s, 100_000, mostSagas)
	if e != api.OK {
		t.Fatal(e)
	}
	for i, v := range events {
		if _, e := j.Do(v); e != api.OK {
			t.Fatalf("event %d %s: %d", i, tell(v), e)
		}
	}
	return s, j
}

// made is an engine over a journal in which those events were done.
func made(t *testing.T, parties []api.Party, limit, ageing, now int, events ...api.Event) *rig {
	t.Helper()
	s, j := keep(t, events...)
	g, at, e := New(j, parties, limit, ageing, now)
	if g == nil || at != -1 || e != api.OK {
		t.Fatalf("New: %d %d", at, e)
	}
	return &rig{g, t, s, j, parties, 0}
}

// fresh is an engine of the hotel and the bank at tick 0, in which trip and free were registered.
func fresh(t *testing.T) *rig {
	t.Helper()
	return made(t, hotelAndBank(), 10, 10, 0, define(trip()), define(free()))
}

// ok holds that a call answered OK.
func (g *rig) ok(what string, e api.Errno) {
	g.t.Helper()
	if e != api.OK {
		g.t.Fatalf("%s: error %d", what, e)
	}
}

// starts starts sagas.
func (g *rig) starts(names ...string) {
	g.t.Helper()
	for _, name := range names {
		_, e := g.Start(name)
		g.ok("Start "+name, e)
	}
}

func (g *rig) tick(n int) {
	g.t.Helper()
	g.ok("Tick", g.Tick(n))
}

func (g *rig) call(kind, id int) {
	g.t.Helper()
	g.ok("Call", g.Call(kind, id))
}

// reply delivers a reply that is taken.
func (g *rig) reply(id, step, try int, undo, good bool) {
	g.t.Helper()
	g.ok("Deliver", g.Deliver(api.Reply{Saga: id, Step: step, Undo: undo, Try: try, Good: good}))
}

// word is an event in short: its kind, its saga, its tick.
func word(v api.Event) string {
	kinds := []string{"define", "start", "emit", "reply", "late", "expire", "cancel", "retry", "skip", "abandon", "forget"}
	return fmt.Sprintf("%s%d@%d", kinds[v.Kind], v.Saga, v.Now)
}

func words(l []api.Event) string {
	var told []string
	for _, v := range l {
		told = append(told, word(v))
	}
	return strings.Join(told, " ")
}

// news is the events since it was asked for last.
func (g *rig) news() string {
	l := g.Done()
	told := words(l[g.seen:])
	g.seen = len(l)
	return told
}

// did holds the events since it was asked for last.
func (g *rig) did(want string) {
	g.t.Helper()
	if got := g.news(); got != want {
		g.t.Fatalf("did %q, not %q", got, want)
	}
}

// wait holds how many entries and timers there are.
func (g *rig) wait(queued, timers int) {
	g.t.Helper()
	if q, n := g.Waiting(); q != queued || n != timers {
		g.t.Fatalf("%d entries and %d timers, not %d and %d", q, n, queued, timers)
	}
}

// flies holds how many commands are in flight to the hotel and the bank, and the states of their breakers.
func (g *rig) flies(hotel, bank, hotelState, bankState int) {
	g.t.Helper()
	got := []int{g.Flying("hotel"), g.Flying("bank"), g.Breaker("hotel"), g.Breaker("bank")}
	if want := []int{hotel, bank, hotelState, bankState}; !slices.Equal(got, want) {
		g.t.Fatalf("in flight and breakers: %v, not %v", got, want)
	}
}

// commands are commands in short: their keys and tries.
func commands(l []api.Command) string {
	var told []string
	for _, c := range l {
		told = append(told, c.Key+"#"+strconv.Itoa(c.Try))
	}
	return strings.Join(told, " ")
}

// out holds what a flush answers.
func (g *rig) out(want string) {
	g.t.Helper()
	l, e := g.Flush()
	g.ok("Flush", e)
	if got := commands(l); got != want {
		g.t.Fatalf("out came %q, not %q", got, want)
	}
}

// is holds a saga's phase, step, tries, and whether one is out.
func (g *rig) is(id, phase, step, tries int, out bool) {
	g.t.Helper()
	s, ok := state.Find(g.State(), id)
	if !ok || s.Phase != phase || s.Step != step || s.Tries != tries || s.Out != out {
		g.t.Fatalf("saga %d: %v %+v", id, ok, s)
	}
}

// asItWas holds that a call is refused, and that nothing tells then that it was made.
func asItWas(t *testing.T, what string, make func() *rig, call func(g *rig) api.Errno, want api.Errno) {
	t.Helper()
	g, h := make(), make()
	if e := call(g); e != want {
		t.Fatalf("%s: error %d, not %d", what, e, want)
	}
	for i := range 4 {
		if a, b := lookAt(g.Engine, g.parties), lookAt(h.Engine, h.parties); !reflect.DeepEqual(a, b) {
			t.Fatalf("%s, look %d: %s\nnot %s", what, i, tell(a), tell(b))
		}
		if files(g.s) != files(h.s) {
			t.Fatalf("%s, look %d: the store is another one", what, i)
		}
		a, e := g.Flush()
		b, f := h.Flush()
		if e != f || !slices.Equal(a, b) {
			t.Fatalf("%s, flush %d: %s %d, not %s %d", what, i, commands(a), e, commands(b), f)
		}
		g.Tick(1 + 4*i)
		h.Tick(1 + 4*i)
	}
}

// refusedNew holds that there is no such engine.
func refusedNew(t *testing.T, what string, j *journal.Journal, parties []api.Party, limit, ageing, now, at int, e api.Errno) {
	t.Helper()
	if g, place, f := New(j, parties, limit, ageing, now); g != nil || place != at || f != e {
		t.Errorf("%s: %v %d %d, not %d %d", what, g != nil, place, f, at, e)
	}
}

// P18.1: the numbers of New, at their bounds and just outside.
func TestNewNumbers(t *testing.T) {
	_, j := keep(t, define(trip()))
	l := hotelAndBank()
	for _, now := range []int{0, 1, lastTick - 1, lastTick} {
		g, at, e := New(j, l, 5, 10, now)
		if g == nil || at != -1 || e != api.OK || g.Now() != now {
			t.Errorf("now %d: %d %d", now, at, e)
		}
	}
	for _, now := range []int{-1, lastTick + 1, lowest, highest} {
		refusedNew(t, "now", j, l, 5, 10, now, -1, api.ErrArg)
	}
	for _, limit := range []int{1, 2, mostSagas - 1, mostSagas} {
		if g, at, e := New(j, l, limit, 10, 0); g == nil || at != -1 || e != api.OK {
			t.Errorf("limit %d: %d %d", limit, at, e)
		}
	}
	for _, limit := range []int{0, -1, mostSagas + 1, lowest, highest} {
		refusedNew(t, "limit", j, l, limit, 10, 0, -1, api.ErrArg)
	}
	for _, ageing := range []int{1, 2, mostAgeing - 1, mostAgeing} {
		if g, at, e := New(j, l, 5, ageing, 0); g == nil || at != -1 || e != api.OK {
			t.Errorf("ageing %d: %d %d", ageing, at, e)
		}
	}
	for _, ageing := range []int{0, -1, mostAgeing + 1, lowest, highest} {
		refusedNew(t, "ageing", j, l, 5, ageing, 0, -1, api.ErrArg)
	}
	refusedNew(t, "no journal", nil, l, 5, 10, 0, -1, api.ErrArg)
}

// P18.1: layer 12's errors, with their places.
func TestNewParties(t *testing.T) {
	_, j := keep(t)
	good := hotelAndBank()[0]
	many := func(n int) []api.Party {
		var l []api.Party
		for i := range n {
			l = append(l, api.Party{Name: "p" + strconv.Itoa(i), Seats: 1, Trip: 1, Cool: 0, Probes: 1})
		}
		return l
	}
	for _, n := range []int{0, 1, 63, 64} {
		if g, at, e := New(j, many(n), 5, 10, 0); g == nil || at != -1 || e != api.OK {
			t.Errorf("%d parties: %d %d", n, at, e)
		}
	}
	if g, at, e := New(j, nil, 5, 10, 0); g == nil || at != -1 || e != api.OK {
		t.Errorf("no parties: %d %d", at, e)
	}
	refusedNew(t, "65 parties", j, many(65), 5, 10, 0, 64, api.ErrFull)
	refusedNew(t, "65 parties, all wrong", j, make([]api.Party, 65), 5, 10, 0, 64, api.ErrFull)
	for i, spoil := range []func(p *api.Party){
		func(p *api.Party) { p.Name = "" },
		func(p *api.Party) { p.Name = "2" },
		func(p *api.Party) { p.Name = strings.Repeat("a", 65) },
		func(p *api.Party) { p.Seats = 0 },
		func(p *api.Party) { p.Seats = 10_001 },
		func(p *api.Party) { p.Trip = 0 },
		func(p *api.Party) { p.Trip = 1001 },
		func(p *api.Party) { p.Cool = -1 },
		func(p *api.Party) { p.Cool = lastTick + 1 },
		func(p *api.Party) { p.Probes = 0 },
		func(p *api.Party) { p.Probes = highest },
	} {
		bad := good
		spoil(&bad)
		what := "party spoilt " + strconv.Itoa(i)
		refusedNew(t, what, j, []api.Party{bad}, 5, 10, 0, 0, api.ErrForm)
		refusedNew(t, what, j, append(many(3), bad, good, good), 5, 10, 0, 3, api.ErrForm)
	}
	refusedNew(t, "alike", j, append(many(3), many(2)...), 5, 10, 0, 3, api.ErrThere)
	refusedNew(t, "alike ahead of wrong", j, append(many(2), many(1)[0], api.Party{}), 5, 10, 0, 2, api.ErrThere)
}

// P18.1: definitions of which one names a party that there isn't.
func TestNewStrangers(t *testing.T) {
	stray := trip()
	stray.Name, stray.Steps[1].Party = "stray", "nobody"
	early := trip()
	early.Name, early.Steps[0].Party = "a", "nobody"
	l := hotelAndBank()
	_, all := keep(t, define(trip()), define(free()))
	if g, at, e := New(all, l, 5, 10, 0); g == nil || at != -1 || e != api.OK {
		t.Errorf("%d %d", at, e)
	}
	for i, row := range [][]api.Event{
		{define(stray)},
		{define(early)},
		{define(early), define(trip())},
		{define(trip()), define(free()), define(stray)},
	} {
		_, j := keep(t, row...)
		refusedNew(t, "row "+strconv.Itoa(i), j, l, 5, 10, 0, -1, api.ErrNone)
	}
	refusedNew(t, "no parties", all, nil, 5, 10, 0, -1, api.ErrNone)
	refusedNew(t, "no bank", all, l[:1], 5, 10, 0, -1, api.ErrNone)
	refusedNew(t, "no hotel", all, l[1:], 5, 10, 0, -1, api.ErrNone)
	_, done := keep(t, define(trip()), start(0, 0, "trip"), act(api.EvCancel, 0, 0), act(api.EvForget, 0, 0))
	refusedNew(t, "though no saga has it", done, l[:1], 5, 10, 0, -1, api.ErrNone)
}

// P18.1: as many sagas as the limit, as many tries out as seats, and one more.
func TestNewFull(t *testing.T) {
	row := []api.Event{define(trip())}
	for i := range 3 {
		row = append(row, start(1, i, "trip"), act(api.EvEmit, 1, i))
	}
	_, j := keep(t, row...)
	parties := func(hotel, bank int) []api.Party {
		l := hotelAndBank()
		l[0].Seats, l[1].Seats = hotel, bank
		return l
	}
	for _, limit := range []int{3, 4, mostSagas} {
		g, at, e := New(j, parties(3, 1), limit, 10, 1)
		if g == nil || at != -1 || e != api.OK || g.Flying("hotel") != 3 || g.Flying("bank") != 0 {
			t.Errorf("limit %d: %d %d", limit, at, e)
		}
	}
	for _, limit := range []int{1, 2} {
		refusedNew(t, "more sagas", j, parties(3, 1), limit, 10, 1, -1, api.ErrFull)
	}
	refusedNew(t, "one try more than seats", j, parties(2, 9), 10, 10, 1, -1, api.ErrFull)
	refusedNew(t, "two tries more than seats", j, parties(1, 9), 10, 10, 1, -1, api.ErrFull)
	row = append(row, answer(2, api.Reply{Saga: 1, Try: 1, Good: true}), act(api.EvEmit, 2, 1), answer(2, api.Reply{Saga: 2, Try: 1, Good: true}), act(api.EvEmit, 2, 2))
	_, j = keep(t, row...)
	refusedNew(t, "at the second party", j, parties(9, 1), 10, 10, 2, -1, api.ErrFull)
	if g, at, e := New(j, parties(1, 2), 10, 10, 2); g == nil || at != -1 || e != api.OK || g.Flying("hotel") != 1 || g.Flying("bank") != 2 {
		t.Errorf("just as many: %d %d", at, e)
	}
	_, over := keep(t, define(trip()), start(0, 0, "trip"), start(0, 1, "trip"), act(api.EvCancel, 0, 0))
	refusedNew(t, "what is over counts", over, hotelAndBank(), 1, 10, 0, -1, api.ErrFull)
	_, over = keep(t, define(trip()), start(0, 0, "trip"), start(0, 1, "trip"), act(api.EvCancel, 0, 0), act(api.EvForget, 0, 0))
	if _, at, e := New(over, hotelAndBank(), 1, 10, 0); at != -1 || e != api.OK {
		t.Errorf("what was forgotten doesn't count: %d %d", at, e)
	}
}

// P18.1: several faults at once: the one that is named first.
func TestNewFirstFault(t *testing.T) {
	stray := one("stray", "nobody", 0)
	_, j := keep(t, define(trip()), define(stray), start(0, 0, "trip"), start(0, 1, "trip"), act(api.EvEmit, 0, 0), act(api.EvEmit, 0, 1))
	_, full := keep(t, define(trip()), start(0, 0, "trip"), start(0, 1, "trip"), act(api.EvEmit, 0, 0), act(api.EvEmit, 0, 1))
	tight := hotelAndBank()
	tight[0].Seats = 1
	wrong := append(hotelAndBank(), api.Party{})
	refusedNew(t, "no journal, wrong parties", nil, wrong, 1, 10, 0, -1, api.ErrArg)
	refusedNew(t, "all of them", j, wrong, 0, 0, -1, -1, api.ErrArg)
	refusedNew(t, "a number, and parties", j, wrong, 1, 0, 0, -1, api.ErrArg)
	refusedNew(t, "parties, and a stranger, and too many", j, wrong, 1, 10, 0, 2, api.ErrForm)
	refusedNew(t, "a stranger, and too many", j, tight, 1, 10, 0, -1, api.ErrNone)
	refusedNew(t, "too many sagas and tries", full, tight, 1, 10, 0, -1, api.ErrFull)
}

// P18.1: what is armed, and in flight, of a saga as it may be found, and what it does first as the time goes on tick by tick.
func TestNewArms(t *testing.T) {
	booked := answer(2, api.Reply{Saga: 0, Try: 1, Good: true})
	undone := func(now, try int, good bool) api.Event {
		return answer(now, api.Reply{Saga: 0, Undo: true, Try: try, Good: good})
	}
	begun := []api.Event{start(1, 0, "trip")}
	emitted := append(slices.Clone(begun), act(api.EvEmit, 1, 0))
	retries := append(slices.Clone(emitted), act(api.EvLate, 6, 0))
	paying := append(slices.Clone(emitted), booked)
	paid := append(slices.Clone(paying), act(api.EvEmit, 2, 0))
	turned := append(slices.Clone(paying), act(api.EvCancel, 3, 0))
	undoing := append(slices.Clone(turned), act(api.EvEmit, 3, 0))
	again := append(slices.Clone(undoing), act(api.EvLate, 8, 0))
	parked := append(slices.Clone(again), act(api.EvEmit, 10, 0), act(api.EvLate, 15, 0))
	completed := append(slices.Clone(paid), answer(3, api.Reply{Saga: 0, Step: 1, Try: 1, Good: true}))
	unending := []api.Event{start(1, 0, "free")}
	for _, row := range []struct {
		what                   string
		events                 []api.Event
		now                    int
		queued, timers         int
		hotel, bank            int
		first                  string
		hotelThen, bankThen    int
		queuedThen, timersThen int
	}{
		{"it may emit", begun, 1, 1, 1, 0, 0, "emit0@2", 1, 0, 0, 1},
		{"it may emit later", begun, 13, 1, 1, 0, 0, "emit0@14", 1, 0, 0, 1},
		{"a tick ahead of its end", begun, 20, 1, 1, 0, 0, "expire0@21", 0, 0, 0, 0},
		{"at its end", begun, 21, 0, 1, 0, 0, "expire0@22", 0, 0, 0, 0},
		{"behind its end", begun, 90, 0, 1, 0, 0, "expire0@91", 0, 0, 0, 0},
		{"ahead of its start", begun, 0, 0, 1, 0, 0, "emit0@1", 1, 0, 0, 1},
		{"without an end", unending, 1, 1, 0, 0, 0, "emit0@2", 1, 0, 0, 1},
		{"without an end, late", unending, lastTick - 9, 1, 0, 0, 0, "emit0@1099511627768", 1, 0, 0, 1},
		{"a try is out", emitted, 1, 0, 1, 1, 0, "late0@6", 0, 0, 0, 1},
		{"a try is out up to the next tick", emitted, 5, 0, 1, 1, 0, "late0@6", 0, 0, 0, 1},
		{"a try is just late", emitted, 6, 0, 1, 1, 0, "late0@7", 0, 0, 0, 1},
		{"a try is long late", emitted, 14, 0, 1, 1, 0, "late0@15", 0, 0, 0, 1},
		{"a try is late, and the end is behind it", emitted, 40, 0, 1, 1, 0, "late0@41 expire0@41", 0, 0, 0, 0},
		{"it waits", retries, 6, 0, 1, 0, 0, "emit0@8", 1, 0, 0, 1},
		{"it waited", retries, 8, 1, 1, 0, 0, "emit0@9", 1, 0, 0, 1},
		{"it waited up to its end", retries, 21, 0, 1, 0, 0, "expire0@22", 0, 0, 0, 0},
		{"the second step may emit", paying, 2, 1, 1, 0, 0, "emit0@3", 0, 1, 0, 1},
		{"the second step is out", paid, 2, 0, 1, 0, 1, "late0@5", 0, 0, 0, 1},
		{"the second step is late at the end", paid, 20, 0, 1, 0, 1, "late0@21 expire0@21 emit0@21", 1, 0, 0, 1},
		{"the undoing may emit", turned, 3, 1, 0, 0, 0, "emit0@4", 1, 0, 0, 1},
		{"the undoing may emit behind the end", turned, 50, 1, 0, 0, 0, "emit0@51", 1, 0, 0, 1},
		{"the undoing is out", undoing, 3, 0, 1, 1, 0, "late0@8", 0, 0, 0, 1},
		{"the undoing is late", undoing, 33, 0, 1, 1, 0, "late0@34", 0, 0, 0, 1},
		{"the undoing waits", again, 9, 0, 1, 0, 0, "emit0@10", 1, 0, 0, 1},
		{"it is parked", parked, 15, 0, 0, 0, 0, "", 0, 0, 0, 0},
		{"it is completed", completed, 3, 0, 0, 0, 0, "", 0, 0, 0, 0},
		{"it is compensated", append(slices.Clone(undoing), undone(4, 1, true)), 4, 0, 0, 0, 0, "", 0, 0, 0, 0},
		{"it is abandoned", append(slices.Clone(parked), act(api.EvAbandon, 15, 0)), 15, 0, 0, 0, 0, "", 0, 0, 0, 0},
		{"it is forgotten", append(slices.Clone(completed), act(api.EvForget, 3, 0)), 3, 0, 0, 0, 0, "", 0, 0, 0, 0},
	} {
		t.Run(row.what, func(t *testing.T) {
			g := made(t, hotelAndBank(), 10, 10, row.now, append([]api.Event{define(trip()), define(free())}, row.events...)...)
			was, disk := fmt.Sprint(g.State()), files(g.s)
			g.wait(row.queued, row.timers)
			g.flies(row.hotel, row.bank, api.Closed, api.Closed)
			g.did("")
			g.out("")
			g.did("")
			if len(g.Flight()) != 0 || fmt.Sprint(g.State()) != was || files(g.s) != disk || g.Now() != row.now {
				t.Error("New changes nothing")
			}
			first := ""
			for i := 0; i < 100 && first == ""; i++ {
				g.tick(1)
				first = g.news()
			}
			if first != row.first {
				t.Fatalf("first %q, not %q", first, row.first)
			}
			if g.Flying("hotel") != row.hotelThen || g.Flying("bank") != row.bankThen {
				t.Errorf("in flight then: %d and %d", g.Flying("hotel"), g.Flying("bank"))
			}
			g.wait(row.queuedThen, row.timersThen)
		})
	}
}

// P18.1: sagas are armed by rising numbers, so that of like ones the least number comes first: in the queue, and of timers of one tick.
func TestNewArmsByNumbers(t *testing.T) {
	row := []api.Event{define(trip())}
	for i := range 6 {
		row = append(row, start(1, i, "trip"))
	}
	row = append(row, act(api.EvEmit, 1, 4), act(api.EvEmit, 1, 2))
	g := made(t, roomy(), 10, 10, 1, row...)
	g.wait(4, 6)
	g.out("")
	g.tick(1)
	g.did("emit0@2 emit1@2 emit3@2 emit5@2")
	g.out("0/book/do#1 1/book/do#1 3/book/do#1 5/book/do#1")
	g.tick(4)
	g.did("late2@6 late4@6")
	// All are put at the time, however long they waited ahead of it.
	g = made(t, roomy(), 10, 10, 15, append(slices.Clone(row), act(api.EvEmit, 1, 0), act(api.EvLate, 6, 0))...)
	g.tick(1)
	g.did("late2@16 late4@16 emit0@16 emit1@16 emit3@16 emit5@16")
	g = made(t, roomy(), 10, 10, 30, row...)
	g.wait(0, 6)
	g.tick(1)
	g.did("expire0@31 expire1@31 late2@31 expire2@31 expire3@31 late4@31 expire4@31 expire5@31")
}

// P18.1: what may be sent behind New is sent by the first call that sends, whichever it is.
func TestNewSendsNothing(t *testing.T) {
	row := []api.Event{define(trip()), start(0, 0, "trip"), start(0, 1, "trip"), start(0, 2, "trip"), act(api.EvEmit, 0, 2)}
	fresh := func() *rig { return made(t, roomy(), 10, 10, 1, row...) }
	g := fresh()
	g.out("")
	g.ok("Checkpoint", g.Checkpoint())
	g.out("")
	g.did("")
	g.wait(2, 3)
	g.starts("trip")
	g.out("0/book/do#1 1/book/do#1 3/book/do#1")
	g = fresh()
	g.tick(1)
	g.out("0/book/do#1 1/book/do#1")
	g = fresh()
	g.reply(2, 0, 1, false, true)
	g.out("2/pay/do#1 0/book/do#1 1/book/do#1")
	g = fresh()
	g.call(api.EvCancel, 0)
	g.out("1/book/do#1")
}

// P18.1: an engine is made anew of the same journal, as often as one likes: breakers are new, and nothing is sent by it.
func TestNewTwice(t *testing.T) {
	g := fresh(t)
	g.starts("trip", "free")
	g.reply(0, 0, 1, false, true)
	g.reply(0, 1, 1, false, false)
	g.flies(1, 0, api.Closed, api.Open)
	for range 2 {
		h, at, e := New(g.j, g.parties, 10, 10, g.Now())
		if at != -1 || e != api.OK || h.Flying("hotel") != 1 || h.Flying("bank") != 0 || h.Breaker("bank") != api.Closed || len(h.Done()) != 0 {
			t.Errorf("%d %d", at, e)
		}
		if l, e := h.Flush(); len(l) != 0 || e != api.OK {
			t.Errorf("%d %d", len(l), e)
		}
	}
}

// P18.1: parties that are handed in are neither changed nor kept.
func TestNewMemory(t *testing.T) {
	_, j := keep(t, define(trip()))
	l := append(hotelAndBank(), api.Party{Name: "more"})
	short := l[:2]
	g, _, e := New(j, short, 5, 10, 0)
	if e != api.OK || !slices.Equal(l[:2], hotelAndBank()) || l[2].Name != "more" {
		t.Errorf("%d %v", e, l)
	}
	clear(l)
	if id, e := g.Start("trip"); id != 0 || e != api.OK || g.Flying("hotel") != 1 {
		t.Error("the parties were kept")
	}
}

// P18.2: definitions that are right, and at fault at each place: the place, and the error.
func TestRegister(t *testing.T) {
	long := strings.Repeat("a", 65)
	for i, row := range []struct {
		spoil func(d *api.Def)
		at    int
		e     api.Errno
	}{
		{func(d *api.Def) { d.Name = "" }, -1, api.ErrName},
		{func(d *api.Def) { d.Name = "2" }, -1, api.ErrName},
		{func(d *api.Def) { d.Name = long }, -1, api.ErrName},
		{func(d *api.Def) { d.Deadline = -1 }, -1, api.ErrArg},
		{func(d *api.Def) { d.Deadline = highest }, -1, api.ErrArg},
		{func(d *api.Def) { d.Steps = nil }, -1, api.ErrShort},
		{func(d *api.Def) { d.Steps = make([]api.Step, 33) }, -1, api.ErrLarge},
		{func(d *api.Def) { d.Steps[0].Name = "" }, 0, api.ErrName},
		{func(d *api.Def) { d.Steps[1].Name = "a b" }, 1, api.ErrName},
		{func(d *api.Def) { d.Steps[0].Party = "" }, 0, api.ErrName},
		{func(d *api.Def) { d.Steps[1].Party = "\xff" }, 1, api.ErrName},
		{func(d *api.Def) { d.Steps[1].Name = "book" }, 1, api.ErrThere},
		{func(d *api.Def) { d.Steps[0].Timeout = 0 }, 0, api.ErrArg},
		{func(d *api.Def) { d.Steps[1].Timeout = lastTick + 1 }, 1, api.ErrArg},
		{func(d *api.Def) { d.Steps[0].Prio = -1 }, 0, api.ErrArg},
		{func(d *api.Def) { d.Steps[1].Prio = 256 }, 1, api.ErrArg},
		{func(d *api.Def) { d.Steps[0].Try.Retries = 1001 }, 0, api.ErrForm},
		{func(d *api.Def) { d.Steps[1].Undo.Base = 0 }, 1, api.ErrForm},
		{func(d *api.Def) { d.Steps[0].Party = "nobody" }, 0, api.ErrNone},
		{func(d *api.Def) { d.Steps[1].Party = "nobody" }, 1, api.ErrNone},
		{func(d *api.Def) { d.Steps[0].Party, d.Steps[1].Party = "nobody", "nobody" }, 0, api.ErrNone},
		{func(d *api.Def) { d.Steps[1].Party = "Bank" }, 1, api.ErrNone},
		{func(d *api.Def) { d.Steps[0].Party, d.Steps[1].Timeout = "nobody", 0 }, 1, api.ErrArg},
		{func(d *api.Def) { d.Steps[1].Party, d.Steps[0].Prio = "nobody", 300 }, 0, api.ErrArg},
		{func(d *api.Def) { d.Name, d.Steps[0].Party = "trip", "nobody" }, 0, api.ErrNone},
		{func(d *api.Def) { d.Name = "trip" }, -1, api.ErrThere},
		{func(d *api.Def) { d.Name = "free" }, -1, api.ErrThere},
	} {
		d := trip()
		d.Name = "other"
		row.spoil(&d)
		asItWas(t, "definition "+strconv.Itoa(i), func() *rig {
			g := fresh(t)
			g.starts("trip", "free")
			return g
		}, func(g *rig) api.Errno {
			at, e := g.Register(d)
			if at != row.at {
				t.Errorf("definition %d: %d, not %d", i, at, row.at)
			}
			return e
		}, row.e)
	}
}

// P18.2: what is registered is there, in memory of its own, at the time, and may be started.
func TestRegistered(t *testing.T) {
	g := made(t, hotelAndBank(), 10, 10, 3)
	d, e := trip(), free()
	for _, x := range []api.Def{d, e} {
		if at, e := g.Register(x); at != -1 || e != api.OK {
			t.Fatal(at, e)
		}
	}
	g.tick(4)
	last := one("a", "bank", 0)
	if at, e := g.Register(last); at != -1 || e != api.OK {
		t.Fatal(at, e)
	}
	g.did("define0@3 define0@3 define0@7")
	d.Steps[0].Party, last.Steps[0].Party = "nobody", "nobody"
	want := fmt.Sprint([]api.Def{one("a", "bank", 0), free(), trip()})
	if got := fmt.Sprint(g.State().Defs); got != want {
		t.Errorf("%s, not %s", got, want)
	}
	if got := fmt.Sprint(g.Done()[0].Def); got != fmt.Sprint(trip()) {
		t.Errorf("done is %s", got)
	}
	g.wait(0, 0)
	g.out("")
	g.starts("trip")
	g.out("0/book/do#1")
}

// P18.2: the journal's errors of a definition: no more than 64, no room, no power.
func TestRegisterJournal(t *testing.T) {
	many := func() *rig {
		g := made(t, hotelAndBank(), 10, 10, 0)
		for i := range 64 {
			if at, e := g.Register(one("d"+strconv.Itoa(i), "bank", 0)); at != -1 || e != api.OK {
				t.Fatal(i, at, e)
			}
		}
		return g
	}
	register := func(d api.Def) func(g *rig) api.Errno {
		return func(g *rig) api.Errno {
			at, e := g.Register(d)
			if at != -1 {
				t.Error("place", at)
			}
			return e
		}
	}
	asItWas(t, "the 65th", many, register(trip()), api.ErrFull)
	asItWas(t, "there, and the 65th", many, register(one("d3", "bank", 0)), api.ErrThere)
	asItWas(t, "no room", func() *rig {
		g := fresh(t)
		g.leave(100)
		return g
	}, register(one("d", "bank", 0)), api.ErrSpace)
	g := fresh(t)
	g.s.Crash()
	if at, e := g.Register(one("d", "bank", 0)); at != -1 || e != api.ErrDown {
		t.Error(at, e)
	}
	g.did("")
	if l := g.Flight(); words(l) != "define0@0" || l[0].Def.Name != "d" {
		t.Error(tell(l))
	}
	if len(g.State().Defs) != 2 {
		t.Error("it is there")
	}
}

// leave leaves so many bytes of a store free.
func (g *rig) leave(n int) {
	g.t.Helper()
	g.s.Append("pad", nil)
	g.ok("Truncate", g.s.Truncate("pad", 0))
	g.ok("Append", g.s.Append("pad", make([]byte, g.s.Free()-n)))
}

// P18.2: names that are there, that aren't, and that are none.
func TestStartNames(t *testing.T) {
	for _, row := range []struct {
		name string
		e    api.Errno
	}{
		{"nobody", api.ErrNone}, {"Trip", api.ErrNone}, {"tri", api.ErrNone}, {"trips", api.ErrNone}, {strings.Repeat("a", 64), api.ErrNone}, {"é", api.ErrNone},
		{"", api.ErrForm}, {"2", api.ErrForm}, {"-a", api.ErrForm}, {"a b", api.ErrForm}, {"trip ", api.ErrForm}, {"a/b", api.ErrForm}, {"\xff", api.ErrForm}, {"a\xe9", api.ErrForm}, {strings.Repeat("a", 65), api.ErrForm},
	} {
		asItWas(t, "name "+tell(row.name), func() *rig {
			g := fresh(t)
			g.starts("trip", "free", "trip")
			return g
		}, func(g *rig) api.Errno {
			id, e := g.Start(row.name)
			if id != 0 {
				t.Errorf("%s: number %d", tell(row.name), id)
			}
			return e
		}, row.e)
	}
}

// P18.2: a start is done at the time, by the next number, and sent.
func TestStart(t *testing.T) {
	g := fresh(t)
	g.tick(4)
	for i, name := range []string{"trip", "free", "trip"} {
		if id, e := g.Start(name); id != i || e != api.OK {
			t.Fatal(id, e)
		}
	}
	g.did("start0@4 emit0@4 start1@4 emit1@4 start2@4")
	if l := g.Done(); l[0].Name != "trip" || l[2].Name != "free" || l[2].Saga != 1 {
		t.Error(tell(l))
	}
	g.wait(1, 3) // the third has an end, the others' tries are out
	g.flies(2, 0, api.Closed, api.Closed)
	l, e := g.Flush()
	want := []api.Command{{Saga: 0, Step: 0, Try: 1, Party: "hotel", Key: "0/book/do"}, {Saga: 1, Step: 0, Try: 1, Party: "hotel", Key: "1/book/do"}}
	if e != api.OK || !slices.Equal(l, want) {
		t.Errorf("%d %s", e, tell(l))
	}
	x := g.State()
	if x.Next != 3 || x.Sagas[2] != (api.Saga{ID: 2, Def: "trip", Start: 4, At: 4}) || x.Sagas[1] != (api.Saga{ID: 1, Def: "free", Start: 4, Tries: 1, Out: true, At: 9}) {
		t.Error(tell(x.Sagas))
	}
}

// P18.2: a start is sent with all that may go.
func TestStartSends(t *testing.T) {
	g := made(t, roomy(), 10, 10, 0, define(one("low", "bank", 1)), define(one("high", "bank", 2)), start(0, 0, "low"), start(0, 1, "high"), start(0, 2, "low"))
	g.starts("high")
	g.out("1/do/do#1 3/do/do#1 0/do/do#1 2/do/do#1")
}

// P18.2: as many sagas as may be: the engine's limit, and the journal's.
func TestStartLimit(t *testing.T) {
	for _, row := range []struct{ engine, journal, may int }{{3, mostSagas, 3}, {3, 3, 3}, {1, 5, 1}, {mostSagas, 2, 2}, {4, 3, 3}} {
		what := fmt.Sprintf("limits %d and %d", row.engine, row.journal)
		full := func() *rig {
			s := store.New(room)
			j, _ := journal.Open(s, 1000, row.journal)
			g, _, e := New(j, roomy(), row.engine, 10, 0)
			if e != api.OK {
				t.Fatal(e)
			}
			r := &rig{g, t, s, j, roomy(), 0}
			r.Register(trip())
			for i := range row.may {
				if id, e := r.Start("trip"); id != i || e != api.OK {
					t.Fatalf("%s: %d %d", what, id, e)
				}
			}
			return r
		}
		refused := func(name string) func(g *rig) api.Errno {
			return func(g *rig) api.Errno {
				id, e := g.Start(name)
				if id != 0 {
					t.Errorf("%s: number %d", what, id)
				}
				return e
			}
		}
		asItWas(t, what, full, refused("trip"), api.ErrFull)
		asItWas(t, what+", no definition", full, refused("other"), api.ErrNone)
		asItWas(t, what+", no name", full, refused("2"), api.ErrForm)
		g := full()
		g.call(api.EvCancel, 0)
		if _, e := g.Start("trip"); e != api.ErrFull {
			t.Errorf("%s: what is over counts: %d", what, e)
		}
		g.call(api.EvForget, 0)
		if id, e := g.Start("trip"); id != row.may || e != api.OK {
			t.Errorf("%s: behind a forgotten one: %d %d", what, id, e)
		}
		if _, e := g.Start("trip"); e != api.ErrFull {
			t.Errorf("%s: again: %d", what, e)
		}
		g.s.Crash()
		if _, e := g.Start("trip"); e != api.ErrFull || len(g.Flight()) != 0 {
			t.Errorf("%s: without power: %d", what, e)
		}
	}
}

// P18.2: the journal's errors: of the start itself nothing is there; of what is sent behind it the start is done.
func TestStartJournal(t *testing.T) {
	begin := func(g *rig) api.Errno {
		id, e := g.Start("trip")
		if id != 0 {
			t.Error("number", id)
		}
		return e
	}
	asItWas(t, "no room", func() *rig {
		g := fresh(t)
		g.starts("trip")
		g.leave(30)
		return g
	}, begin, api.ErrSpace)
	g := fresh(t)
	g.starts("free", "free")
	g.news()
	g.s.Crash()
	if e := begin(g); e != api.ErrDown || words(g.Flight()) != "start2@0" || g.Flight()[0].Name != "trip" {
		t.Error(e, tell(g.Flight()))
	}
	g.did("")
	g.wait(0, 2)

	g = fresh(t)
	g.starts("free")
	g.out("0/book/do#1")
	g.news()
	g.leave(49 + recordSize - 1) // the start's record, and not the emission's
	if e := begin(g); e != api.ErrSpace {
		t.Error(e)
	}
	g.did("start1@0")
	g.is(1, api.Running, 0, 0, false)
	g.wait(1, 2)
	g.flies(1, 0, api.Closed, api.Closed)
	g.out("")
	g.leave(1000)
	g.tick(1)
	g.did("emit1@1")
	g.out("1/book/do#1")
}

// P18.2: replies, good and bad, to tries that are out and that aren't, with what is in flight, and the breakers, behind each. The hotel trips at the third failure, the bank at the first.
func TestDeliver(t *testing.T) {
	type reply struct {
		step, try  int
		undo, good bool
		e          api.Errno
	}
	for _, row := range []struct {
		what                            string
		build                           func(g *rig)
		r                               reply
		did, out                        string
		hotel, bank, hotelIs, bankIs, q int
		timers                          int
	}{
		{"good", nil, reply{0, 1, false, true, api.OK}, "reply0@1 emit0@1", "0/pay/do#1", 0, 1, api.Closed, api.Closed, 0, 1},
		{"bad", nil, reply{0, 1, false, false, api.OK}, "reply0@1", "", 0, 0, api.Closed, api.Closed, 0, 1},
		{"good of a try that is late", func(g *rig) { g.tick(4) }, reply{0, 1, false, true, api.OK}, "reply0@5 emit0@5", "0/pay/do#1", 0, 1, api.Closed, api.Closed, 0, 1},
		{"good of the try ahead, while one is out", func(g *rig) { g.tick(6) }, reply{0, 1, false, true, api.OK}, "reply0@7 emit0@7", "0/pay/do#1", 0, 1, api.Closed, api.Closed, 0, 1},
		{"bad of the last try", func(g *rig) { g.tick(6) }, reply{0, 2, false, false, api.OK}, "reply0@7", "", 0, 0, api.Closed, api.Closed, 0, 0},
		{"good of the last step", func(g *rig) { g.reply(0, 0, 1, false, true) }, reply{1, 1, false, true, api.OK}, "reply0@1", "", 0, 0, api.Closed, api.Closed, 0, 0},
		{"bad of the bank", func(g *rig) { g.reply(0, 0, 1, false, true) }, reply{1, 1, false, false, api.OK}, "reply0@1", "", 0, 0, api.Closed, api.Open, 0, 1},
		{"good of an undoing", func(g *rig) { g.reply(0, 0, 1, false, true); g.call(api.EvCancel, 0) }, reply{0, 1, true, true, api.OK}, "reply0@1", "", 0, 0, api.Closed, api.Closed, 0, 0},
		{"bad of an undoing", func(g *rig) { g.reply(0, 0, 1, false, true); g.call(api.EvCancel, 0) }, reply{0, 1, true, false, api.OK}, "reply0@1", "", 0, 0, api.Closed, api.Closed, 0, 1},
	} {
		t.Run(row.what, func(t *testing.T) {
			g := fresh(t)
			g.starts("trip")
			g.tick(1)
			if row.build != nil {
				row.build(g)
			}
			g.Flush()
			g.news()
			e := g.Deliver(api.Reply{Saga: 0, Step: row.r.step, Try: row.r.try, Undo: row.r.undo, Good: row.r.good})
			if e != row.r.e {
				t.Fatal(e)
			}
			g.did(row.did)
			g.out(row.out)
			g.flies(row.hotel, row.bank, row.hotelIs, row.bankIs)
			g.wait(row.q, row.timers)
		})
	}
}

// P18.2: replies that are refused: they change nothing, whatever is out.
func TestDeliverRefused(t *testing.T) {
	out := func() *rig {
		g := fresh(t)
		g.starts("trip", "free", "trip")
		g.tick(1)
		return g
	}
	second := func() *rig {
		g := out()
		g.reply(0, 0, 1, false, true)
		return g
	}
	waits := func() *rig {
		g := out()
		g.reply(0, 0, 1, false, false)
		return g
	}
	undoing := func() *rig {
		g := second()
		g.call(api.EvCancel, 0)
		return g
	}
	over := func() *rig {
		g := out()
		g.call(api.EvCancel, 0)
		return g
	}
	for _, row := range []struct {
		what string
		make func() *rig
		r    api.Reply
		e    api.Errno
	}{
		{"number below 0", out, api.Reply{Saga: -1, Try: 1, Good: true}, api.ErrArg},
		{"least number", out, api.Reply{Saga: lowest, Try: 1, Good: true}, api.ErrArg},
		{"step below 0", out, api.Reply{Step: -1, Try: 1, Good: true}, api.ErrArg},
		{"try below 0", out, api.Reply{Try: -1, Good: true}, api.ErrArg},
		{"least try", out, api.Reply{Try: lowest, Good: true}, api.ErrArg},
		{"below 0 of a saga that isn't there", out, api.Reply{Saga: 99, Step: -1}, api.ErrArg},
		{"below 0 of what is over", over, api.Reply{Try: -1}, api.ErrArg},
		{"no such saga", out, api.Reply{Saga: 3, Try: 1, Good: true}, api.ErrNone},
		{"no such saga, by far", out, api.Reply{Saga: highest, Step: highest, Try: highest, Good: true}, api.ErrNone},
		{"try 0", out, api.Reply{Try: 0, Good: true}, api.ErrLate},
		{"a try that wasn't", out, api.Reply{Try: 2, Good: true}, api.ErrLate},
		{"the greatest try", out, api.Reply{Try: highest}, api.ErrLate},
		{"another step", out, api.Reply{Step: 1, Try: 1, Good: true}, api.ErrLate},
		{"no step", out, api.Reply{Step: highest, Try: 1, Good: true}, api.ErrLate},
		{"an undoing", out, api.Reply{Try: 1, Undo: true, Good: true}, api.ErrLate},
		{"what wasn't emitted", out, api.Reply{Saga: 2, Try: 1, Good: true}, api.ErrLate},
		{"the step ahead, again", second, api.Reply{Try: 1, Good: true}, api.ErrLate},
		{"the step ahead, badly", second, api.Reply{Try: 1}, api.ErrLate},
		{"bad, again", waits, api.Reply{Try: 1}, api.ErrLate},
		{"a doing, while it is undone", undoing, api.Reply{Try: 1, Good: true}, api.ErrLate},
		{"the lost step", undoing, api.Reply{Step: 1, Try: 1, Good: true}, api.ErrLate},
		{"what is over", over, api.Reply{Try: 1, Good: true}, api.ErrOver},
	} {
		asItWas(t, row.what, row.make, func(g *rig) api.Errno { return g.Deliver(row.r) }, row.e)
	}
}

// P18.2: a bad reply to a try ahead of the one that is out isn't taken, a good one is; and the one that was out is over by it, as a success.
func TestDeliverEarlierTry(t *testing.T) {
	g := made(t, []api.Party{{Name: "hotel", Seats: 1, Trip: 2, Cool: 100, Probes: 1}, hotelAndBank()[1]}, 10, 10, 0, define(one("a", "hotel", 0)))
	g.starts("a", "a")
	g.tick(7) // the first try was late at 5, and that made one failure; the next one waits up to 7, and saga 1 took the seat
	g.did("start0@0 emit0@0 start1@0 late0@5 emit1@5")
	g.reply(1, 0, 1, false, true) // a success: no failure is counted any more
	g.did("reply1@7 emit0@7")
	if e := g.Deliver(api.Reply{Try: 1}); e != api.ErrLate {
		t.Error(e)
	}
	g.flies(1, 0, api.Closed, api.Closed)
	g.tick(5)
	g.did("late0@12")
	g.tick(4)
	g.did("emit0@16")
	g.reply(0, 0, 1, false, true)
	g.flies(0, 0, api.Closed, api.Closed)
	g.is(0, api.Completed, 0, 3, false)
	g.starts("a")
	g.reply(2, 0, 1, false, false) // one failure alone, since the success
	g.flies(0, 0, api.Closed, api.Closed)
}

// P18.2: what is over by a reply makes room for who waits.
func TestDeliverSends(t *testing.T) {
	g := fresh(t)
	g.starts("trip", "trip", "trip", "trip")
	g.out("0/book/do#1 1/book/do#1")
	g.wait(2, 4)
	g.reply(0, 0, 1, false, true)
	g.out("0/pay/do#1 2/book/do#1") // the step's priority is 7
	g.reply(1, 0, 1, false, true)
	g.out("3/book/do#1") // the bank has one seat
	g.wait(1, 4)
	g.reply(0, 1, 1, false, false)
	g.out("") // the bank is shut
	g.flies(2, 0, api.Closed, api.Open)
}

// P18.2: the kinds of calls, and of numbers.
func TestCallRefused(t *testing.T) {
	running := func() *rig {
		parties := roomy()
		parties[1].Seats = 1
		g := made(t, parties, 10, 10, 0, define(trip()), define(free()), define(one("a", "bank", 0)))
		g.starts("trip", "free", "trip", "a", "a")
		g.tick(1)
		return g
	}
	undoing := func() *rig {
		g := running()
		g.reply(0, 0, 1, false, true)
		g.call(api.EvCancel, 0)
		return g
	}
	parked := func() *rig {
		g := undoing()
		g.reply(0, 0, 1, true, false)
		g.tick(2)
		g.reply(0, 0, 2, true, false)
		g.is(0, api.Parked, 0, 2, false)
		return g
	}
	completed := func() *rig {
		g := running()
		g.reply(3, 0, 1, false, true)
		g.reply(4, 0, 1, false, true)
		g.reply(0, 0, 1, false, true)
		g.reply(0, 1, 1, false, true)
		g.is(0, api.Completed, 1, 1, false)
		return g
	}
	compensated := func() *rig {
		g := undoing()
		g.reply(0, 0, 1, true, true)
		g.is(0, api.Compensated, 0, 1, false)
		return g
	}
	abandoned := func() *rig {
		g := parked()
		g.call(api.EvAbandon, 0)
		g.is(0, api.Abandoned, 0, 2, false)
		return g
	}
	forgotten := func() *rig {
		g := completed()
		g.call(api.EvForget, 0)
		return g
	}
	kinds := []int{api.EvCancel, api.EvRetry, api.EvSkip, api.EvAbandon, api.EvForget}
	for what, row := range map[string]struct {
		make func() *rig
		e    [5]api.Errno // OK: it isn't refused
	}{
		"running":     {running, [5]api.Errno{api.OK, api.ErrState, api.ErrState, api.ErrState, api.ErrState}},
		"undoing":     {undoing, [5]api.Errno{api.ErrState, api.ErrState, api.ErrState, api.ErrState, api.ErrState}},
		"parked":      {parked, [5]api.Errno{api.ErrState, api.OK, api.OK, api.OK, api.ErrState}},
		"completed":   {completed, [5]api.Errno{api.ErrOver, api.ErrOver, api.ErrOver, api.ErrOver, api.OK}},
		"compensated": {compensated, [5]api.Errno{api.ErrOver, api.ErrOver, api.ErrOver, api.ErrOver, api.OK}},
		"abandoned":   {abandoned, [5]api.Errno{api.ErrOver, api.ErrOver, api.ErrOver, api.ErrOver, api.OK}},
		"forgotten":   {forgotten, [5]api.Errno{api.ErrNone, api.ErrNone, api.ErrNone, api.ErrNone, api.ErrNone}},
	} {
		for i, kind := range kinds {
			if row.e[i] == api.OK {
				g := row.make()
				g.call(kind, 0)
				continue
			}
			asItWas(t, what+" "+strconv.Itoa(kind), row.make, func(g *rig) api.Errno { return g.Call(kind, 0) }, row.e[i])
		}
	}
	for _, kind := range []int{lowest, -1, api.EvDefine, api.EvStart, api.EvEmit, api.EvReply, api.EvLate, api.EvExpire, 11, highest} {
		for _, id := range []int{0, 1, 99, -1, lowest} {
			asItWas(t, fmt.Sprint("kind ", kind, " of ", id), running, func(g *rig) api.Errno { return g.Call(kind, id) }, api.ErrKind)
		}
	}
	for _, kind := range kinds {
		for id, e := range map[int]api.Errno{-1: api.ErrArg, lowest: api.ErrArg, 5: api.ErrNone, highest: api.ErrNone} {
			asItWas(t, fmt.Sprint("kind ", kind, " of ", id), running, func(g *rig) api.Errno { return g.Call(kind, id) }, e)
		}
	}
}

// P18.2: a cancel: a command that is out is lost, without a failure, and its seat is free for who waits.
func TestCancel(t *testing.T) {
	g := fresh(t)
	g.starts("trip", "free", "trip", "trip")
	g.news()
	g.Flush()
	g.call(api.EvCancel, 0) // its command is out; nothing is to be undone
	g.did("cancel0@0 emit2@0")
	g.out("2/book/do#1")
	g.is(0, api.Compensated, 0, 1, false)
	g.flies(2, 0, api.Closed, api.Closed)
	g.wait(1, 3)
	g.call(api.EvCancel, 3) // it waits for a seat: its entry goes, and its timer
	g.did("cancel3@0")
	g.wait(0, 2)
	g.reply(1, 0, 1, false, true) // the bank's seat is taken by 1
	g.out("1/pay/do#1")
	g.news()
	g.call(api.EvCancel, 1)
	g.did("cancel1@0 emit1@0")
	g.out("1/book/undo#1")
	g.flies(2, 0, api.Closed, api.Closed) // the bank trips at one failure: what was lost is none
	g.wait(0, 2)
	g.tick(21)
	if strings.Contains(g.news(), "expire1") || g.Now() != 21 {
		t.Error("what turned back has no end")
	}
}

// P18.2: a probe that is lost by a cancel is no more, so that another may go.
func TestCancelProbe(t *testing.T) {
	g := made(t, hotelAndBank(), 10, 10, 0, define(one("a", "bank", 0)))
	g.starts("a")
	g.reply(0, 0, 1, false, false)
	g.flies(0, 0, api.Closed, api.Open)
	g.starts("a", "a")
	g.tick(10)
	g.flies(0, 1, api.Closed, api.Half)
	g.news()
	g.call(api.EvCancel, 1) // ten ticks more of waiting are as much as a priority: saga 1 was put at 0, saga 0 at 2
	g.did("cancel1@10 emit2@10")
	g.flies(0, 1, api.Closed, api.Half)
}

// P18.2: an operator's calls to what is parked: a retry is sent, a skip goes on with the step ahead, or ends it; what is given up, or forgotten, has nothing armed.
func TestOperator(t *testing.T) {
	d := free()
	d.Steps[0].Undo, d.Steps[0].Try = plan(0), plan(0)
	g := made(t, roomy(), 10, 10, 0, define(d))
	for i := range 3 {
		g.starts("free")
		g.reply(i, 0, 1, false, true)
		g.call(api.EvCancel, i)
		g.reply(i, 0, 1, true, false)
		g.is(i, api.Parked, 0, 1, false)
	}
	g.wait(0, 0)
	g.tick(3)
	g.news()
	g.Flush()
	g.call(api.EvRetry, 1)
	g.did("retry1@3 emit1@3")
	g.out("1/book/undo#1")
	g.wait(0, 1)
	g.flies(1, 0, api.Closed, api.Closed)
	g.call(api.EvSkip, 0)
	g.did("skip0@3")
	g.is(0, api.Abandoned, 0, 1, false)
	g.call(api.EvAbandon, 2)
	g.did("abandon2@3")
	g.is(2, api.Abandoned, 0, 1, false)
	g.wait(0, 1)
	g.call(api.EvForget, 0)
	g.call(api.EvForget, 2)
	g.did("forget0@3 forget2@3")
	g.wait(0, 1)
	if x := g.State(); len(x.Sagas) != 1 || x.Next != 3 {
		t.Error(tell(x))
	}
	g.tick(5)
	g.did("late1@8")
	g.is(1, api.Parked, 0, 1, false)
}

// P18.2: what is skipped goes on with the step ahead.
func TestSkip(t *testing.T) {
	d := free()
	d.Steps = append(d.Steps, api.Step{Name: "go", Party: "hotel", Timeout: 5, Try: plan(0), Undo: plan(0)})
	g := made(t, roomy(), 10, 10, 0, define(d))
	g.starts("free")
	g.reply(0, 0, 1, false, true)
	g.reply(0, 1, 1, false, true)
	g.call(api.EvCancel, 0)
	g.reply(0, 1, 1, true, false)
	g.is(0, api.Parked, 1, 1, false)
	g.news()
	g.Flush()
	g.call(api.EvSkip, 0)
	g.did("skip0@0 emit0@0")
	g.out("0/book/undo#1")
	g.flies(1, 0, api.Closed, api.Closed)
}

// P18.2: an error of the journal: of the event itself nothing is changed; of what is sent behind it the event is done.
func TestAskJournal(t *testing.T) {
	build := func(left int) func() *rig {
		return func() *rig {
			g := made(t, roomy(), 10, 10, 0, define(trip()))
			g.starts("trip")
			g.tick(1)
			g.leave(left)
			return g
		}
	}
	good := func(g *rig) api.Errno { return g.Deliver(api.Reply{Try: 1, Good: true}) }
	asItWas(t, "a reply without room", build(62), good, api.ErrSpace)
	asItWas(t, "a cancel without room", build(recordSize-1), func(g *rig) api.Errno { return g.Call(api.EvCancel, 0) }, api.ErrSpace)
	g := build(63 + recordSize - 1)()
	g.news()
	g.Flush()
	if e := good(g); e != api.ErrSpace {
		t.Error(e)
	}
	g.did("reply0@1")
	g.flies(0, 0, api.Closed, api.Closed)
	g.wait(1, 1)
	g.out("")
	g.leave(1000)
	g.starts("trip")
	g.did("start1@1 emit0@1 emit1@1")
	for n, want := range []string{"", "", "reply0@1"} {
		g := build(10000)()
		g.Flush()
		g.news()
		g.s.Fuse(n)
		e := good(g)
		if n == 0 {
			if e != api.OK || len(g.Flight()) != 0 {
				t.Error(e)
			}
			continue
		}
		if e != api.ErrDown {
			t.Error(n, e)
		}
		g.did(want)
		if got := words(g.Flight()); got != []string{"", "reply0@1", "emit0@1"}[n] {
			t.Error(n, got)
		}
		if x := g.State(); x.Sagas[0].Step != n-1 {
			t.Error(n, tell(x))
		}
		g.flies(2-n, 0, api.Closed, api.Closed)
	}
}

// P18.3: how far the time goes on.
func TestTickNumbers(t *testing.T) {
	build := func() *rig {
		g := fresh(t)
		g.starts("trip", "free", "trip")
		g.tick(3)
		return g
	}
	for _, n := range []int{0, -1, -lastTick, lowest} {
		asItWas(t, "Tick "+strconv.Itoa(n), build, func(g *rig) api.Errno { return g.Tick(n) }, api.ErrArg)
	}
	for _, n := range []int{lastTick - 3, lastTick - 2, lastTick, highest} {
		g := build()
		g.tick(n)
		if g.Now() != lastTick {
			t.Errorf("Tick(%d): %d", n, g.Now())
		}
		g.tick(1)
		g.tick(highest)
		if g.Now() != lastTick {
			t.Errorf("at the end: %d", g.Now())
		}
	}
	g := build()
	g.tick(lastTick - 4)
	if g.Now() != lastTick-1 {
		t.Error(g.Now())
	}
	g = made(t, nil, 1, 1, 0)
	for i := range 5 {
		g.tick(1 << (10 * i))
	}
	if g.Now() != 1+1<<10+1<<20+1<<30+1<<40 && g.Now() != lastTick {
		t.Error(g.Now())
	}
}

// P18.3: what is armed at the last tick has a timer that never goes; what may be sent there is sent.
func TestLastTick(t *testing.T) {
	g := made(t, roomy(), 10, 10, lastTick-5, define(trip()), define(free()))
	g.starts("trip", "free")
	g.news()
	g.tick(5) // both tries are late, the first saga is at its end, the second goes again at once
	g.did(strings.ReplaceAll("late0@T expire0@T late1@T emit1@T", "T", strconv.Itoa(lastTick)))
	g.is(0, api.Compensated, 0, 1, false)
	g.is(1, api.Running, 0, 2, true)
	g.wait(0, 1)
	g.tick(1)
	g.did("")
	g.wait(0, 1)
	g.reply(1, 0, 2, false, false)
	g.is(1, api.Compensated, 0, 2, false)
	g.wait(0, 0)
	g.starts("trip") // its end is there: nothing may be emitted
	g.is(2, api.Running, 0, 0, false)
	g.wait(0, 1)
	g.starts("free")
	g.is(3, api.Running, 0, 1, true)
	g.wait(0, 2)
	g.tick(highest)
	g.is(2, api.Running, 0, 0, false)
	g.is(3, api.Running, 0, 1, true)
	g.wait(0, 2)
}

// P18.3: one step of n is as good as n steps of 1, where no breaker is waited for; the time may be looked at in between.
func TestTickInSteps(t *testing.T) {
	build := func() *rig {
		g := made(t, roomy(), 20, 10, 0, define(trip()), define(free()), define(one("a", "bank", 3)))
		g.starts("trip", "free", "a", "trip")
		g.tick(2)
		g.starts("a", "free")
		g.reply(1, 0, 1, false, true)
		g.reply(3, 0, 1, false, true)
		g.call(api.EvCancel, 3)
		return g
	}
	for _, n := range []int{1, 2, 3, 4, 5, 7, 10, 18, 19, 30, 100} {
		g, h := build(), build()
		g.tick(n)
		for range n {
			h.tick(1)
		}
		if a, b := lookAt(g.Engine, g.parties), lookAt(h.Engine, h.parties); !reflect.DeepEqual(a, b) {
			t.Errorf("%d: %s\nnot %s", n, tell(a), tell(b))
		}
		a, _ := g.Flush()
		b, _ := h.Flush()
		if !slices.Equal(a, b) {
			t.Errorf("%d: %s, not %s", n, commands(a), commands(b))
		}
	}
}

// P18.3: within a step it is sent at each tick at which timers go, and at the last one, but at no other, even if a breaker lets something go there.
func TestTickSends(t *testing.T) {
	build := func() *rig {
		g := made(t, hotelAndBank(), 10, 10, 0, define(one("a", "bank", 0)), define(one("b", "hotel", 0)))
		g.starts("a")
		g.reply(0, 0, 1, false, false) // the bank is shut up to 10
		g.tick(2)
		g.wait(1, 0)
		g.flies(0, 0, api.Closed, api.Open)
		g.news()
		return g
	}
	g := build()
	g.tick(20) // no timer goes ahead of its end
	g.did("emit0@22")
	g = build()
	for range 20 {
		g.tick(1)
	}
	g.did("emit0@10 late0@15")
	g = build()
	g.tick(8)
	g.did("emit0@10")
	g = build()
	g.tick(7)
	g.did("")
	g.starts("b")
	g.news()
	g.tick(8) // saga 1 is late at 14: there saga 0 is sent, too
	g.did("late1@14 emit0@14 emit1@16")
}

// P18.3: timers of one tick go one by one, in the order in which they were set, and only then it is sent.
func TestTickTimers(t *testing.T) {
	three := one("three", "bank", 0)
	three.Steps[0].Timeout = 3
	g := made(t, roomy(), 10, 10, 0, define(three), define(one("five", "hotel", 0)))
	g.starts("three", "five", "five")
	g.reply(0, 0, 1, false, false) // it goes again at 2, and is late at 5
	g.tick(2)
	g.news()
	g.tick(3)
	g.did("late1@5 late2@5 late0@5")
	g.tick(4) // the second wait is 4
	g.did("emit1@7 emit2@7 emit0@9")
	tight := hotelAndBank()
	tight[0].Seats, tight[0].Trip = 1, 9
	g = made(t, tight, 10, 10, 0, define(one("five", "hotel", 0)))
	g.starts("five", "five", "five")
	g.news()
	g.tick(30) // a seat that is free at a tick is taken at it
	g.did("late0@5 emit1@5 late1@10 emit2@10 late2@15 emit0@15 late0@20 emit1@20 late1@25 emit2@25 late2@30 emit0@30")
}

// P18.3: a late try at its saga's end; the last one of all, which turns it back by itself; and a try that is out at the end.
func TestTickEnds(t *testing.T) {
	ends := one("ends", "bank", 0)
	ends.Deadline = 5
	last := ends
	last.Name, last.Steps = "last", slices.Clone(ends.Steps)
	last.Steps[0].Try = plan(0)
	lost := last
	lost.Name, lost.Steps = "lost", slices.Clone(ends.Steps)
	lost.Steps[0].Timeout = 6
	for _, row := range []struct {
		name, did string
		bank      int
	}{
		{"ends", "late0@5 expire0@5", api.Open},
		{"last", "late0@5", api.Open},
		{"lost", "expire0@5", api.Closed},
	} {
		g := made(t, hotelAndBank(), 10, 10, 0, define(ends), define(last), define(lost))
		g.starts(row.name)
		g.news()
		g.tick(4)
		g.did("")
		g.flies(0, 1, api.Closed, api.Closed)
		g.wait(0, 1)
		g.tick(1)
		g.did(row.did)
		g.flies(0, 0, api.Closed, row.bank)
		g.is(0, api.Compensated, 0, 1, false)
		g.wait(0, 0)
	}
	// What waits for a seat at its end has no command that would be over.
	g := made(t, hotelAndBank(), 10, 10, 0, define(lost))
	g.starts("lost", "lost")
	g.wait(1, 2)
	g.tick(5)
	g.flies(0, 0, api.Closed, api.Closed)
	g.wait(0, 0)
	g.is(1, api.Compensated, 0, 0, false)
}

// P18.3: a probe that is out at its saga's end is lost, so that another may go at that tick.
func TestTickLosesProbe(t *testing.T) {
	ends := one("ends", "bank", 9)
	ends.Deadline = 12
	g := made(t, hotelAndBank(), 10, 10, 0, define(ends), define(one("a", "bank", 0)))
	g.starts("a")
	g.reply(0, 0, 1, false, false)
	g.starts("ends")
	g.tick(10)
	g.flies(0, 1, api.Closed, api.Half)
	g.news()
	g.tick(2)
	g.did("expire1@12 emit0@12")
	g.flies(0, 1, api.Closed, api.Half)
}

// P18.3: who is sent first: by priority and by how long it waits, of like ones who came first.
func TestTickOrder(t *testing.T) {
	for _, row := range []struct {
		ageing int
		puts   [][2]int // the tick, the priority, of the sagas 1, 2, ..
		order  string
	}{
		{10, [][2]int{{0, 1}, {11, 2}}, "1 2"},
		{10, [][2]int{{0, 1}, {10, 2}}, "1 2"},
		{10, [][2]int{{0, 1}, {9, 2}}, "2 1"},
		{1, [][2]int{{0, 1}, {2, 2}}, "1 2"},
		{100, [][2]int{{0, 1}, {2, 2}}, "2 1"},
		{mostAgeing, [][2]int{{0, 1}, {40, 2}}, "2 1"},
		{10, [][2]int{{0, 0}, {0, 255}, {0, 7}}, "2 3 1"},
		{10, [][2]int{{0, 5}, {0, 5}, {0, 5}, {0, 6}}, "4 1 2 3"},
		{10, [][2]int{{3, 0}, {4, 0}, {5, 0}, {23, 2}, {24, 2}}, "1 4 2 5 3"},
	} {
		long := one("long", "bank", 0)
		long.Steps[0].Timeout = 50
		defs := []api.Event{define(long)}
		for _, prio := range []int{0, 1, 2, 5, 6, 7, 255} {
			defs = append(defs, define(one("p"+strconv.Itoa(prio), "bank", prio)))
		}
		parties := []api.Party{{Name: "bank", Seats: 1, Trip: 1000, Cool: 1, Probes: 1}}
		g := made(t, parties, 20, row.ageing, 0, defs...)
		g.starts("long") // it has the seat
		for _, p := range row.puts {
			if p[0] > g.Now() {
				g.tick(p[0] - g.Now())
			}
			g.starts("p" + strconv.Itoa(p[1]))
		}
		g.out("0/do/do#1")
		var order []string
		for id := 0; len(order) < len(row.puts); {
			g.reply(id, 0, 1, false, true)
			l, _ := g.Flush()
			if len(l) != 1 {
				t.Fatal(commands(l))
			}
			id = l[0].Saga
			order = append(order, strconv.Itoa(id))
		}
		if got := strings.Join(order, " "); got != row.order {
			t.Errorf("%v: %s, not %s", row.puts, got, row.order)
		}
	}
}

// P18.3: a try that waited is put at the tick at which its wait is over: it stands behind who came ahead of that, and ahead of who came later.
func TestTickPutsAnew(t *testing.T) {
	tight := []api.Party{{Name: "bank", Seats: 1, Trip: 1000, Cool: 1, Probes: 1}}
	g := made(t, tight, 10, 1, 0, define(one("a", "bank", 0)))
	g.starts("a", "a", "a")
	g.reply(0, 0, 1, false, false) // it waits up to 2; saga 1 has the seat
	g.tick(1)
	g.starts("a")
	g.tick(2)
	g.starts("a")
	g.news()
	g.wait(4, 1)
	g.reply(1, 0, 1, false, true)
	g.reply(2, 0, 1, false, true)
	g.reply(3, 0, 1, false, true)
	g.reply(0, 0, 2, false, true)
	g.did("reply1@3 emit2@3 reply2@3 emit3@3 reply3@3 emit0@3 reply0@3 emit4@3")
}

// halt is what a Tick of 30 has done, if its journal has an error at an event; what waits then, how many commands are in flight to the hotel, and what is done a tick later, if that can be done.
type halt struct {
	event, did     string
	queued, timers int
	hotel          int
	then           string
}

// halts are all of them, in haltable's engine, by how many events are done ahead.
func halts() []halt {
	return []halt{
		{"emit3@2", "", 1, 3, 3, "late0@T late1@T late2@T expire2@T emit3@T"},
		{"late0@5", "emit3@2", 0, 4, 4, "late0@T late1@T late2@T expire2@T late3@T"},
		{"late1@5", "emit3@2 late0@5", 1, 3, 3, "late1@T late2@T expire2@T late3@T emit0@T"},
		{"late2@5", "emit3@2 late0@5 late1@5", 2, 2, 2, "late2@T expire2@T late3@T emit0@T emit1@T"},
		{"late3@7", "emit3@2 late0@5 late1@5 late2@5", 2, 2, 1, "late3@T expire2@T emit0@T emit1@T"},
		{"emit0@7", "emit3@2 late0@5 late1@5 late2@5 late3@7", 3, 1, 0, "expire2@T emit0@T emit1@T emit3@T"},
		{"emit1@7", "emit3@2 late0@5 late1@5 late2@5 late3@7 emit0@7", 2, 2, 1, "late0@T expire2@T emit1@T emit3@T"},
	}
}

// haltable is an engine with three tries that are late at 5, one of them of a saga with an end at 20, and one that waits up to 2.
func haltable(t *testing.T) *rig {
	t.Helper()
	g := made(t, roomy(), 10, 10, 0, define(one("a", "hotel", 0)), define(trip()))
	g.starts("a", "a", "trip", "a")
	g.reply(3, 0, 1, false, false)
	g.Flush()
	g.news()
	return g
}

// P18.3: without room in the store nothing more is done, the time goes on to the end, and what went for nothing goes a tick behind that.
func TestTickWithoutRoom(t *testing.T) {
	for records, row := range halts() {
		g := haltable(t)
		g.leave(records*recordSize + recordSize - 1)
		if e := g.Tick(30); e != api.ErrSpace || g.Now() != 30 {
			t.Errorf("%d records: %d at %d", records, e, g.Now())
		}
		g.did(row.did)
		for now := 31; now <= 33; now++ {
			g.wait(row.queued, row.timers)
			g.flies(row.hotel, 0, api.Closed, api.Closed)
			if e := g.Tick(1); e != api.ErrSpace || g.Now() != now {
				t.Errorf("%d records: %d at %d", records, e, g.Now())
			}
			g.did("")
		}
		if len(g.Flight()) != 0 {
			t.Error("the power is there")
		}
		g.leave(1000)
		g.tick(1)
		g.did(strings.ReplaceAll(row.then, "T", "34"))
	}
}

// P18.3: where the power goes, likewise; the event is told, and a restart finds what was done ahead of it, and maybe that event.
func TestTickPowerGoes(t *testing.T) {
	for n, row := range halts() {
		for _, kept := range []int{0, 1 << 20} {
			g := haltable(t)
			was := g.State()
			g.s.Fuse(n + 1)
			if e := g.Tick(30); e != api.ErrDown || g.Now() != 30 {
				t.Fatalf("deed %d: %d at %d", n, e, g.Now())
			}
			g.did(row.did)
			g.wait(row.queued, row.timers)
			g.flies(row.hotel, 0, api.Closed, api.Closed)
			flight := g.Flight()
			if words(flight) != row.event {
				t.Fatalf("deed %d: in flight was %s", n, words(flight))
			}
			if _, e := g.Flush(); e != api.ErrDown {
				t.Error(n, e)
			}
			if e := g.Tick(2); e != api.ErrDown || g.Now() != 32 || !reflect.DeepEqual(g.Flight(), flight) {
				t.Errorf("deed %d, again: %d at %d", n, e, g.Now())
			}
			g.did("")
			g.wait(row.queued, row.timers)
			g.s.Boot([]int{kept})
			j, e := journal.Open(g.s, 100_000, mostSagas)
			if e != api.OK {
				t.Fatal(e)
			}
			want := g.State()
			if kept == 0 {
				want = was // the last sync was ahead of it all
			} else if want, _, e = state.Do(want, flight[0], mostSagas); e != api.OK {
				t.Fatal(e)
			}
			if !state.Same(j.State(), want) {
				t.Errorf("deed %d, %d kept: %s, not %s", n, kept, tell(j.State()), tell(want))
			}
		}
	}
}

// P18.3: without power, as long as nothing is to be done, the time goes on.
func TestTickWithoutPower(t *testing.T) {
	g := fresh(t)
	g.starts("trip")
	g.news()
	g.s.Crash()
	g.tick(4)
	if len(g.Flight()) != 0 || g.Now() != 4 {
		t.Error(words(g.Flight()), g.Now())
	}
	if e := g.Tick(1); e != api.ErrDown || words(g.Flight()) != "late0@5" || g.Now() != 5 {
		t.Error(e, words(g.Flight()), g.Now())
	}
	g.did("")
	g.flies(1, 0, api.Closed, api.Closed)
}

// P18.3: a late try is done, and what its saga's end asks for can't be: that goes later.
func TestTickHalfDone(t *testing.T) {
	ends := one("ends", "bank", 0)
	ends.Deadline = 5
	g := made(t, hotelAndBank(), 10, 10, 0, define(ends))
	g.starts("ends")
	g.news()
	g.leave(2*recordSize - 1)
	if e := g.Tick(7); e != api.ErrSpace {
		t.Error(e)
	}
	g.did("late0@5")
	g.flies(0, 0, api.Closed, api.Open)
	g.wait(0, 1)
	g.is(0, api.Running, 0, 1, false)
	g.leave(1000)
	g.tick(1)
	g.did("expire0@8")
	g.is(0, api.Compensated, 0, 1, false)
	g.wait(0, 0)
}

// P18.3: who was put into the queue ahead of an error stays as it is; who is armed behind it is put at the end.
func TestTickArmsAgain(t *testing.T) {
	low, high := one("low", "hotel", 0), one("high", "hotel", 1)
	high.Steps[0].Try.Base = 4
	late := low
	late.Name, late.Steps = "late", slices.Clone(low.Steps)
	late.Steps[0].Timeout = 2
	g := made(t, roomy(), 10, 10, 0, define(low), define(high), define(late))
	for id, name := range []string{"low", "late", "low", "high"} {
		g.starts(name)
		if name != "late" {
			g.reply(id, 0, 1, false, false)
		}
	}
	g.wait(0, 4) // at 2, in this order: saga 0's wait is over, 1 is late, 2's wait is over; at 4 that of 3
	g.news()
	g.leave(10)
	if e := g.Tick(30); e != api.ErrSpace || g.Now() != 30 {
		t.Error(e, g.Now())
	}
	g.did("")
	g.wait(3, 1)
	g.leave(1000)
	g.tick(1)
	g.did("late1@31 emit0@31 emit3@31 emit2@31") // saga 0 was put at 2, the others at 30: saga 3's priority weighs 10
}

// P18.3: with an error the end of time isn't passed either.
func TestTickErrorAtTheEnd(t *testing.T) {
	g := haltable(t)
	g.leave(0)
	if e := g.Tick(highest); e != api.ErrSpace || g.Now() != lastTick {
		t.Error(e, g.Now())
	}
	g.wait(1, 3)
	if e := g.Tick(1); e != api.ErrSpace || g.Now() != lastTick {
		t.Error(e, g.Now())
	}
	g.leave(1000)
	g.tick(1)
	g.did("emit3@" + strconv.Itoa(lastTick))
}

// P18.3: no file is left for the segment to which the log would roll.
func TestTickWithoutFiles(t *testing.T) {
	s := store.New(room)
	j, _ := journal.Open(s, 1, 10)
	j.Do(define(trip()))
	j.Do(start(0, 0, "trip"))
	for i := 0; len(s.Names()) < 256; i++ {
		s.Append("other"+strconv.Itoa(i), nil)
	}
	g, _, e := New(j, hotelAndBank(), 10, 10, 0)
	if e != api.OK {
		t.Fatal(e)
	}
	r := &rig{g, t, s, j, hotelAndBank(), 0}
	if e := r.Tick(3); e != api.ErrFull || r.Now() != 3 {
		t.Error(e, r.Now())
	}
	r.did("")
	r.wait(1, 1)
	s.Remove("other0")
	r.tick(1)
	r.did("emit0@4")
	r.out("0/book/do#1")
}

// P18.3: each command comes out once, in the order in which they were laid out, and only with a sync.
func TestFlush(t *testing.T) {
	g := fresh(t)
	g.out("")
	g.starts("trip", "free", "trip")
	g.out("0/book/do#1 1/book/do#1")
	g.out("")
	g.reply(1, 0, 1, false, true)
	g.reply(0, 0, 1, false, true)
	g.tick(3)
	g.s.Crash()
	for range 2 {
		if l, e := g.Flush(); e != api.ErrDown || len(l) != 0 {
			t.Error(e, commands(l))
		}
	}
	g.s.Boot([]int{1 << 20})
	g.out("1/pay/do#1 2/book/do#1")
	g.out("")
	g.starts("free")
	g.s.Fuse(1)
	if l, e := g.Flush(); e != api.ErrDown || len(l) != 0 {
		t.Error(e, commands(l))
	}
}

// P18.3: a flush makes safe what was done; an error of it, with nothing laid out, is told too.
func TestFlushSyncs(t *testing.T) {
	g := fresh(t)
	g.starts("trip")
	g.out("0/book/do#1")
	g.reply(0, 0, 1, false, false)
	g.out("") // nothing is laid out, but it syncs
	want := g.State()
	g.call(api.EvCancel, 0)
	g.s.Crash()
	g.s.Boot(nil)
	j, e := journal.Open(g.s, 1000, 10)
	if e != api.OK || !state.Same(j.State(), want) {
		t.Error(e, tell(j.State()))
	}
	g = fresh(t)
	g.out("")
	g.s.Crash()
	if l, e := g.Flush(); e != api.ErrDown || len(l) != 0 {
		t.Error(e, commands(l))
	}
	if len(g.Flight()) != 0 {
		t.Error("a sync is no event")
	}
}

// P18.3: a checkpoint is the journal's: what it answers, and what it leaves; of the engine it changes nothing.
func TestCheckpoint(t *testing.T) {
	g := fresh(t)
	g.starts("trip", "free", "trip")
	was := lookAt(g.Engine, g.parties)
	g.ok("Checkpoint", g.Checkpoint())
	if got := lookAt(g.Engine, g.parties); !reflect.DeepEqual(got, was) {
		t.Errorf("%s, not %s", tell(got), tell(was))
	}
	if got := strings.Join(g.s.Names(), " "); got != "c2" {
		t.Error(got)
	}
	g.out("0/book/do#1 1/book/do#1")
	g.s.Crash()
	if e := g.Checkpoint(); e != api.ErrDown {
		t.Error(e)
	}
	g.s.Boot(nil)
	j, e := journal.Open(g.s, 1000, 10)
	if e != api.OK || fmt.Sprintf("%+v", j.State()) != was.X {
		t.Error(e, tell(j.State()))
	}
	g = fresh(t)
	g.leave(50)
	if e := g.Checkpoint(); e != api.ErrSpace {
		t.Error(e)
	}
	g = fresh(t)
	g.s.Fuse(1)
	if e := g.Checkpoint(); e != api.ErrDown {
		t.Error(e)
	}
	large := []api.Event{define(free())}
	for i := range 1000 {
		large = append(large, start(0, i, "free"))
	}
	g = made(t, roomy(), 1000, 10, 0, large...)
	if e := g.Checkpoint(); e != api.ErrLarge {
		t.Error(e)
	}
}

// P18.4: what is told is new memory: it may be written over.
func TestMemory(t *testing.T) {
	g := fresh(t)
	d := one("a", "bank", 0)
	if _, e := g.Register(d); e != api.OK {
		t.Fatal(e)
	}
	g.starts("trip", "free", "trip", "a")
	g.reply(0, 0, 1, false, true)
	late := one("late", "bank", 0)
	g.s.Fuse(1)
	if _, e := g.Register(late); e != api.ErrDown {
		t.Fatal(e)
	}
	clear(d.Steps)
	clear(late.Steps)
	was := lookAt(g.Engine, g.parties)
	x, done, flight := g.State(), g.Done(), g.Flight()
	if len(flight) != 1 || flight[0].Def.Steps[0].Party != "bank" || done[0].Def.Steps[0].Party != "bank" {
		t.Error(tell(flight), tell(done))
	}
	for _, d := range x.Defs {
		clear(d.Steps)
	}
	clear(done[0].Def.Steps)
	clear(flight[0].Def.Steps)
	clear(x.Defs)
	clear(x.Sagas)
	clear(done)
	clear(flight)
	_ = append(append(x.Sagas[:0], api.Saga{ID: 9}), api.Saga{ID: 9})
	_ = append(done[:1], api.Event{Kind: 9}, api.Event{Kind: 9})
	if got := lookAt(g.Engine, g.parties); !reflect.DeepEqual(got, was) {
		t.Errorf("%s\nnot %s", tell(got), tell(was))
	}
	g = fresh(t)
	g.starts("trip")
	l, _ := g.Flush()
	clear(l)
	g.starts("trip")
	for _, c := range l[:cap(l)] {
		if c != (api.Command{}) {
			t.Error("what was handed out is written on")
		}
	}
	_ = append(l[:0], api.Command{Saga: 9}, api.Command{Saga: 9})
	g.out("1/book/do#1")
}

// P18.4: parties that there are, and that there aren't.
func TestParties(t *testing.T) {
	g := fresh(t)
	g.starts("trip", "trip")
	g.reply(0, 0, 1, false, true)
	g.reply(0, 1, 1, false, false)
	g.flies(1, 0, api.Closed, api.Open)
	for _, name := range []string{"", "nobody", "Bank", "ban", "banks", "bank ", "2", "\xff", strings.Repeat("a", 1000)} {
		if g.Flying(name) != 0 || g.Breaker(name) != api.Closed {
			t.Errorf("%s: %d %d", tell(name), g.Flying(name), g.Breaker(name))
		}
	}
	g.tick(9)
	g.flies(1, 0, api.Closed, api.Open)
	none := made(t, nil, 1, 1, 0)
	if none.Flying("bank") != 0 || none.Breaker("bank") != api.Closed {
		t.Error("of no parties")
	}
}

// P18.4: a breaker is asked at the time: it is half-open from its tick on, with nothing being called in between.
func TestBreakerTime(t *testing.T) {
	g := made(t, hotelAndBank(), 10, 10, 0, define(one("a", "bank", 0)))
	g.starts("a")
	g.reply(0, 0, 1, false, false)
	g.call(api.EvCancel, 0)
	for now := 1; now <= 12; now++ {
		g.tick(1)
		want := api.Open
		if now >= 10 {
			want = api.Half
		}
		if g.Breaker("bank") != want {
			t.Errorf("at %d: %d", now, g.Breaker("bank"))
		}
	}
	g.starts("a")
	g.flies(0, 1, api.Closed, api.Half)
	g.starts("a")
	g.flies(0, 1, api.Closed, api.Half)
	g.reply(1, 0, 1, false, true)
	g.flies(0, 1, api.Closed, api.Closed)
}

// P18.4: the events that were done since New, in their order, of all calls; those that a journal had ahead aren't among them.
func TestDone(t *testing.T) {
	g := made(t, roomy(), 10, 10, 0, define(trip()), start(0, 0, "trip"))
	g.did("")
	g.Register(free())
	g.starts("free")
	g.Deliver(api.Reply{Saga: 0, Try: 9})
	g.Deliver(api.Reply{Saga: 0, Try: 1, Good: true})
	g.Call(api.EvCancel, 1)
	g.Call(api.EvForget, 1)
	g.Start("nobody")
	g.tick(4)
	g.did("define0@0 start1@0 emit0@0 emit1@0 reply0@0 emit0@0 cancel1@0 forget1@0 late0@3")
	l := g.Done()
	if l[4].Reply != (api.Reply{Saga: 0, Try: 1, Good: true}) || l[1].Name != "free" || l[0].Def.Name != "free" {
		t.Error(tell(l))
	}
	if len(g.Flight()) != 0 {
		t.Error(words(g.Flight()))
	}
}

// P18.4: the first event that the journal answered ErrDown, and no other one: not one that was refused by itself, nor one behind it.
func TestFlight(t *testing.T) {
	g := fresh(t)
	g.starts("trip")
	g.s.Crash()
	if e := g.Deliver(api.Reply{Saga: 0, Try: 9}); e != api.ErrLate || len(g.Flight()) != 0 {
		t.Error(e)
	}
	if e := g.Call(api.EvRetry, 0); e != api.ErrState || len(g.Flight()) != 0 {
		t.Error(e)
	}
	if e := g.Deliver(api.Reply{Saga: 0, Try: 1}); e != api.ErrDown {
		t.Error(e)
	}
	want := []api.Event{{Kind: api.EvReply, Reply: api.Reply{Saga: 0, Try: 1}}}
	for range 3 {
		if got := g.Flight(); !reflect.DeepEqual(got, want) {
			t.Error(tell(got))
		}
		g.Start("trip")
		g.Call(api.EvCancel, 0)
		g.Tick(10)
	}
	g.s.Boot([]int{1 << 20})
	g.starts("trip")
	if got := g.Flight(); !reflect.DeepEqual(got, want) {
		t.Error(tell(got))
	}
}

// The chapter's example.
func TestExample(t *testing.T) {
	g := fresh(t)
	if id, e := g.Start("trip"); id != 0 || e != api.OK {
		t.Fatal(id, e)
	}
	l, e := g.Flush()
	want := []api.Command{{Saga: 0, Step: 0, Try: 1, Party: "hotel", Key: "0/book/do"}}
	if e != api.OK || !slices.Equal(l, want) {
		t.Error(e, tell(l))
	}
}

// P1, P18.2, P18.3: any arguments: each call ends, and none panics.
func TestAnyArguments(t *testing.T) {
	numbers := []int{lowest, -1, 0, 1, 2, 63, 64, 65, mostSagas, mostSagas + 1, mostAgeing + 1, lastTick, lastTick + 1, 1 << 62, highest}
	texts := []string{"", "trip", "free", "\xff", "\x00", strings.Repeat("é", 64), strings.Repeat("x", 100_000)}
	g := fresh(t)
	g.starts("trip", "free")
	for _, n := range numbers {
		for _, m := range numbers {
			g.Call(n, m)
			g.Deliver(api.Reply{Saga: n, Step: m, Try: n, Good: m%2 == 0})
			g.Deliver(api.Reply{Saga: m % 2, Step: n, Try: m, Undo: true})
			New(g.j, hotelAndBank(), n, m, 0)
			New(g.j, []api.Party{{Name: "hotel", Seats: n, Trip: m, Cool: n, Probes: m}}, 5, 5, n)
			g.Register(api.Def{Name: "x", Deadline: n, Steps: []api.Step{{Name: "a", Party: "bank", Timeout: m, Try: api.Plan{Retries: n, Base: m, Factor: n, Cap: m}, Prio: n}}})
		}
		g.Tick(n)
	}
	for _, text := range texts {
		g.Start(text)
		g.Flying(text)
		g.Breaker(text)
		g.Register(api.Def{Name: text, Steps: []api.Step{{Name: text, Party: text}}})
		New(g.j, []api.Party{{Name: text, Seats: 1, Trip: 1, Cool: 1, Probes: 1}}, 5, 5, 0)
	}
	if !state.Good(g.State()) {
		t.Error(tell(g.State()))
	}
}

// P1: what is done to the journal by another hand ends nothing: no call panics, and what isn't there any more has nothing armed.
func TestAnotherHand(t *testing.T) {
	g := fresh(t)
	g.starts("trip", "trip", "trip", "free")
	g.wait(2, 3)
	for _, v := range []api.Event{act(api.EvCancel, 0, 2), act(api.EvForget, 0, 2), act(api.EvCancel, 0, 0), act(api.EvForget, 0, 0), act(api.EvCancel, 0, 3), define(one("x", "nobody", 0)), start(0, 4, "x")} {
		if _, e := g.j.Do(v); e != api.OK {
			t.Fatal(tell(v), e)
		}
	}
	g.starts("trip")
	g.tick(30)
	g.Deliver(api.Reply{Saga: 4, Try: 1})
	g.call(api.EvCancel, 4)
	g.tick(lastTick)
	g.wait(0, 0)
}
