package front

import (
	"fmt"
	"math"
	"slices"
	"strconv"
	"strings"
	"testing"

	"usufruct/api"
	"usufruct/code"
	"usufruct/record"
)

const (
	lowest     = math.MinInt
	highest    = math.MaxInt
	lastTick   = 1 << 40
	mostSagas  = 65536
	mostAgeing = 1 << 20
	mostBytes  = 1 << 20 // of a segment
	mostVolume = 1 << 24
	recordSize = 37 // bytes of the record of an event that is a kind, a tick and a saga alone
)

// tell is anything, cut short where it is long, without bytes that are no rune's.
func tell(x any) string {
	s := strconv.QuoteToASCII(fmt.Sprintf("%+v", x))
	return s[:min(len(s), 4000)]
}

// plan is a plan of so many retries, whose waits are 2, 4, 8, 8.
func plan(retries int) api.Plan {
	return api.Plan{Retries: retries, Base: 2, Factor: 2, Cap: 8}
}

// trip is a definition of two steps: the first one is tried twice, the second one once; an undoing once.
func trip() api.Def {
	return api.Def{Name: "trip", Deadline: 20, Steps: []api.Step{
		{Name: "book", Party: "hotel", Timeout: 5, Try: plan(1), Undo: plan(0)},
		{Name: "pay", Party: "bank", Timeout: 3, Try: plan(0), Undo: plan(0), Prio: 7},
	}}
}

// free is trip without an end.
func free() api.Def {
	d := trip()
	d.Name, d.Deadline = "free", 0
	return d
}

// big is a definition of 32 steps, whose form has some 4,000 bytes.
func big(name string) api.Def {
	d := api.Def{Name: name}
	for i := range 32 {
		d.Steps = append(d.Steps, api.Step{Name: "step" + strconv.Itoa(i), Party: "hotel", Timeout: 5, Try: plan(0), Undo: plan(0)})
	}
	return d
}

// changed is a definition in memory of its own, with something else in it.
func changed(d api.Def, change func(d *api.Def)) api.Def {
	d.Steps = slices.Clone(d.Steps)
	change(&d)
	return d
}

// config is that of a hotel of two seats and a bank of one.
func config() api.Config {
	return api.Config{
		Parties: []api.Party{{Name: "hotel", Seats: 2, Trip: 9, Cool: 1, Probes: 1}, {Name: "bank", Seats: 1, Trip: 9, Cool: 1, Probes: 1}},
		Limit:   5, Ageing: 10, Segment: 100_000, Volume: 1 << 20,
	}
}

// roomy is a config whose seats, sagas and failures don't count.
func roomy() api.Config {
	c := config()
	c.Limit = 100
	for i := range c.Parties {
		c.Parties[i].Seats, c.Parties[i].Trip = 100, 1000
	}
	return c
}

// with is config with something else in it.
func with(change func(c *api.Config)) api.Config {
	c := config()
	change(&c)
	return c
}

// made is a front of a config, at which those calls were made, all of them acknowledged.
func made(t *testing.T, c api.Config, orders ...order) *Front {
	t.Helper()
	f, at, e := New(c)
	if f == nil || at != -1 || e != api.OK {
		t.Fatalf("New: %d %d", at, e)
	}
	ask(t, f, orders...)
	return f
}

// ask makes calls that are acknowledged.
func ask(t *testing.T, c caller, orders ...order) {
	t.Helper()
	for _, o := range orders {
		if _, e := o.do(c); e != api.OK {
			t.Fatalf("%s: error %d", o.what, e)
		}
	}
}

// yes and no are replies to a doing; undone and stuck to an undoing.
func yes(id, step, try int) order {
	return delivering(api.Reply{Saga: id, Step: step, Try: try, Good: true})
}

func no(id, step, try int) order {
	return delivering(api.Reply{Saga: id, Step: step, Try: try})
}

func undone(id, step int) order {
	return delivering(api.Reply{Saga: id, Step: step, Undo: true, Try: 1, Good: true})
}

func stuck(id, step int) order {
	return delivering(api.Reply{Saga: id, Step: step, Undo: true, Try: 1})
}

// parked is what it takes that a saga that was started is parked: its second step fails, and the undoing of the first one.
func parked(id int) []order {
	return []order{yes(id, 0, 1), no(id, 1, 1), stuck(id, 0)}
}

// word is an event in short: its kind, its saga, its tick.
func word(v api.Event) string {
	kinds := []string{"define", "start", "emit", "reply", "late", "expire", "cancel", "retry", "skip", "abandon", "forget"}
	return fmt.Sprintf("%s%d@%d", kinds[v.Kind], v.Saga, v.Now)
}

func words(l []api.Event) string {
	var told []string
	for _, v := range l {
		told = append(told, word(v))
	}
	return strings.Join(told, " ")
}

// commands are commands in short: their keys and tries.
func commands(l []api.Command) string {
	var told []string
	for _, c := range l {
		told = append(told, c.Key+"#"+strconv.Itoa(c.Try))
	}
	return strings.Join(told, " ")
}

// size is how many bytes of the log an event takes.
func size(v api.Event) int {
	form, _ := code.PutEvent(v)
	return record.Size(len(form))
}

// line is a call, what it answers, what is in the outbox behind it, and which events are sure by it.
type line struct {
	order
	n        int
	e        api.Errno
	out, did string
}

// play makes calls one by one, empties the outbox behind each, and holds what is seen.
func play(t *testing.T, f *Front, lines ...line) {
	t.Helper()
	for i, l := range lines {
		seen := len(f.Past())
		n, e := l.do(f)
		if n != l.n || e != l.e {
			t.Fatalf("line %d, %s: %d and error %d, not %d and %d", i, l.what, n, e, l.n, l.e)
		}
		if out := commands(f.Take()); out != l.out {
			t.Fatalf("line %d, %s: out came %q, not %q", i, l.what, out, l.out)
		}
		if did := words(f.Past()[seen:]); did != l.did {
			t.Fatalf("line %d, %s: did %q, not %q", i, l.what, did, l.did)
		}
	}
}

// is holds a saga's phase, step, tries, and whether one is out.
func is(t *testing.T, f *Front, id, phase, step, tries int, out bool) {
	t.Helper()
	s, e := f.Status(id)
	if e != api.OK || s.ID != id || s.Phase != phase || s.Step != step || s.Tries != tries || s.Out != out {
		t.Fatalf("saga %d: %d %+v", id, e, s)
	}
}

// tails holds the events of Tail.
func tails(t *testing.T, f *Front, want string) {
	t.Helper()
	if got := words(f.Tail()); got != want {
		t.Fatalf("Tail is %q, not %q", got, want)
	}
}

// pasts holds the events of Past, and that they come to the state, while it can be seen.
func pasts(t *testing.T, f *Front, want string) {
	t.Helper()
	if got := words(f.Past()); got != want {
		t.Fatalf("Past is %q, not %q", got, want)
	}
	if x := stateOf(f.Past(), mostSagas); !f.Down() && tellState(x) != tellState(f.State()) {
		t.Fatalf("Past comes to %s, the state is %s", tell(x), tell(f.State()))
	}
}

// loads holds what there is.
func loads(t *testing.T, f *Front, want ...int) {
	t.Helper()
	flying, queued, timers, bytes := f.Load()
	if got := []int{flying, queued, timers, bytes}; !slices.Equal(got, want) {
		t.Fatalf("Load is %v, not %v", got, want)
	}
}

// restarts restarts a front whose power is gone.
func restarts(t *testing.T, f *Front, keep ...int) {
	t.Helper()
	if e := f.Restart(keep); e != api.OK || f.Down() {
		t.Fatalf("Restart: %d", e)
	}
}

// refusedNew holds that there is no such front.
func refusedNew(t *testing.T, what string, c api.Config, at int, e api.Errno) {
	t.Helper()
	if f, place, g := New(c); f != nil || place != at || g != e {
		t.Errorf("%s: %v %d %d, not %d %d", what, f != nil, place, g, at, e)
	}
}

// P20.1: each number of a config at its bounds, and outside of them.
func TestNewNumbers(t *testing.T) {
	set := map[string]func(c *api.Config, n int){
		"Volume":  func(c *api.Config, n int) { c.Volume = n },
		"Segment": func(c *api.Config, n int) { c.Segment = n },
		"Limit":   func(c *api.Config, n int) { c.Limit = n },
		"Ageing":  func(c *api.Config, n int) { c.Ageing = n },
	}
	most := map[string]int{"Volume": mostVolume, "Segment": mostBytes, "Limit": mostSagas, "Ageing": mostAgeing}
	for what, put := range set {
		for _, n := range []int{1, 2, most[what] - 1, most[what]} {
			c := with(func(c *api.Config) { put(c, n) })
			if f, at, e := New(c); f == nil || at != -1 || e != api.OK {
				t.Errorf("%s %d: %d %d", what, n, at, e)
			}
		}
		for _, n := range []int{0, -1, most[what] + 1, lowest, highest} {
			c := with(func(c *api.Config) { put(c, n) })
			refusedNew(t, what, c, -1, api.ErrArg)
			c.Parties[0].Seats = 0
			refusedNew(t, what+" and a party", c, -1, api.ErrArg)
			c.Parties = slices.Repeat(c.Parties, 40)
			refusedNew(t, what+" and many parties", c, -1, api.ErrArg)
			for other, put := range set {
				put(&c, 0)
				refusedNew(t, what+" and "+other, c, -1, api.ErrArg)
			}
		}
	}
	// Layer 17 would take more sagas than layer 18 does.
	refusedNew(t, "limit", with(func(c *api.Config) { c.Limit = 1 << 20 }), -1, api.ErrArg)
}

// P20.1: layer 12's errors and places.
func TestNewParties(t *testing.T) {
	parties := func(n int) []api.Party {
		var l []api.Party
		for i := range n {
			l = append(l, api.Party{Name: "p" + strconv.Itoa(i), Seats: 1, Trip: 1, Probes: 1})
		}
		return l
	}
	for _, n := range []int{0, 1, 63, 64} {
		if f, at, e := New(with(func(c *api.Config) { c.Parties = parties(n) })); f == nil || at != -1 || e != api.OK {
			t.Errorf("%d parties: %d %d", n, at, e)
		}
	}
	for _, n := range []int{65, 66, 1000} {
		refusedNew(t, "many parties", with(func(c *api.Config) { c.Parties = parties(n) }), 64, api.ErrFull)
	}
	spoil := map[string]func(p *api.Party){
		"name":   func(p *api.Party) { p.Name = "" },
		"digit":  func(p *api.Party) { p.Name = "1" },
		"seats":  func(p *api.Party) { p.Seats = 0 },
		"seats+": func(p *api.Party) { p.Seats = 10_001 },
		"trip":   func(p *api.Party) { p.Trip = 0 },
		"cool":   func(p *api.Party) { p.Cool = -1 },
		"probes": func(p *api.Party) { p.Probes = 1001 },
	}
	for what, change := range spoil {
		for at := range 3 {
			c := with(func(c *api.Config) { c.Parties = parties(3) })
			change(&c.Parties[at])
			refusedNew(t, what, c, at, api.ErrForm)
		}
	}
	for at := 1; at < 4; at++ {
		for ahead := range at {
			c := with(func(c *api.Config) { c.Parties = parties(4) })
			c.Parties[at].Name = c.Parties[ahead].Name
			refusedNew(t, "alike", c, at, api.ErrThere)
		}
	}
	c := with(func(c *api.Config) { c.Parties = parties(4) })
	c.Parties[1].Name, c.Parties[2].Trip = "p0", 0
	refusedNew(t, "the first one at fault", c, 1, api.ErrThere)
}

// P20.1: a new front.
func TestNew(t *testing.T) {
	f := made(t, config())
	want := newPaper(config()).look()
	alike(t, "a new front", lookAt(f), want)
	if f.Now() != 0 || f.Down() || tellState(f.State()) != tellState(api.State{}) {
		t.Errorf("%d %v %s", f.Now(), f.Down(), tell(f.State()))
	}
	if len(f.Take()) != 0 || len(f.Tail()) != 0 || len(f.Past()) != 0 {
		t.Errorf("%v %v %v", f.Take(), f.Tail(), f.Past())
	}
	loads(t, f, 0, 0, 0, 0)
}

// P20.1: the smallest front takes nothing, but stands.
func TestNewSmallest(t *testing.T) {
	c := api.Config{Limit: 1, Ageing: 1, Segment: 1, Volume: 1}
	f := made(t, c)
	play(t, f,
		line{registering(trip()), 0, api.ErrNone, "", ""},
		line{starting("trip"), 0, api.ErrNone, "", ""},
		line{ticking(3), 0, api.OK, "", ""},
		line{keeping(), 0, api.ErrSpace, "", ""},
	)
	f.Crash()
	restarts(t, f)
	if f.Now() != 3 {
		t.Errorf("the time is %d", f.Now())
	}
}

// P20.2: each call's answer, the outbox behind it, and its events.
func TestCalls(t *testing.T) {
	f := made(t, config())
	play(t, f,
		line{starting("trip"), 0, api.ErrNone, "", ""},
		line{registering(trip()), -1, api.OK, "", "define0@0"},
		line{registering(trip()), -1, api.ErrThere, "", ""},
		line{starting("trip"), 0, api.OK, "0/book/do#1", "start0@0 emit0@0"},
		line{starting("trip"), 1, api.OK, "1/book/do#1", "start1@0 emit1@0"},
		line{starting("trip"), 2, api.OK, "", "start2@0"},
		line{yes(0, 0, 1), 0, api.OK, "0/pay/do#1 2/book/do#1", "reply0@0 emit0@0 emit2@0"},
		line{yes(0, 0, 1), 0, api.ErrLate, "", ""},
		line{ticking(2), 0, api.OK, "", ""},
		line{yes(0, 1, 1), 0, api.OK, "", "reply0@2"},
		line{no(1, 0, 1), 0, api.OK, "", "reply1@2"},
		line{ticking(2), 0, api.OK, "1/book/do#2", "emit1@4"},
		line{cancelling(1), 0, api.OK, "", "cancel1@4"},
		line{cancelling(1), 0, api.ErrOver, "", ""},
		line{forgetting(1), 0, api.OK, "", "forget1@4"},
		line{forgetting(1), 0, api.ErrNone, "", ""},
		line{ticking(3), 0, api.OK, "2/book/do#2", "late2@5 emit2@7"},
		line{starting("trip"), 3, api.OK, "3/book/do#1", "start3@7 emit3@7"},
		line{yes(3, 0, 1), 0, api.OK, "3/pay/do#1", "reply3@7 emit3@7"},
		line{no(3, 1, 1), 0, api.OK, "3/book/undo#1", "reply3@7 emit3@7"},
		line{stuck(3, 0), 0, api.OK, "", "reply3@7"},
		line{retrying(3), 0, api.OK, "3/book/undo#1", "retry3@7 emit3@7"},
		line{stuck(3, 0), 0, api.OK, "", "reply3@7"},
		line{skipping(3), 0, api.OK, "", "skip3@7"},
		line{starting("trip"), 4, api.OK, "4/book/do#1", "start4@7 emit4@7"},
		line{yes(4, 0, 1), 0, api.OK, "4/pay/do#1", "reply4@7 emit4@7"},
		line{ticking(3), 0, api.OK, "4/book/undo#1", "late4@10 emit4@10"},
		line{ticking(5), 0, api.OK, "", "late2@12 late4@15"},
		line{abandoning(4), 0, api.OK, "", "abandon4@15"},
		line{keeping(), 0, api.OK, "", ""},
		line{registering(free()), -1, api.OK, "", "define0@15"},
	)
	for id, phase := range map[int]int{0: api.Completed, 2: api.Compensated, 3: api.Abandoned, 4: api.Abandoned} {
		if s, e := f.Status(id); e != api.OK || s.Phase != phase {
			t.Errorf("saga %d: %d %+v", id, e, s)
		}
	}
	loads(t, f, 0, 0, 0, size(api.Event{Kind: api.EvDefine, Now: 15, Def: free()}))
}

// P20.2: calls that are refused answer the engine's number, place and error, and leave all as it was.
func TestCallsRefused(t *testing.T) {
	reply := func(id, step, try int) order { return delivering(api.Reply{Saga: id, Step: step, Try: try}) }
	step := func(at int, change func(s *api.Step)) order {
		return registering(changed(free(), func(d *api.Def) { change(&d.Steps[at]) }))
	}
	lines := []line{
		{registering(api.Def{}), -1, api.ErrName, "", ""},
		{registering(changed(free(), func(d *api.Def) { d.Deadline = -1 })), -1, api.ErrArg, "", ""},
		{registering(changed(free(), func(d *api.Def) { d.Steps = nil })), -1, api.ErrShort, "", ""},
		{registering(changed(big("big"), func(d *api.Def) { d.Steps = append(d.Steps, d.Steps[0]) })), -1, api.ErrLarge, "", ""},
		{step(0, func(s *api.Step) { s.Name = "" }), 0, api.ErrName, "", ""},
		{step(1, func(s *api.Step) { s.Name = "book" }), 1, api.ErrThere, "", ""},
		{step(1, func(s *api.Step) { s.Timeout = 0 }), 1, api.ErrArg, "", ""},
		{step(0, func(s *api.Step) { s.Undo.Cap = 0 }), 0, api.ErrForm, "", ""},
		{step(0, func(s *api.Step) { s.Party = "nobody" }), 0, api.ErrNone, "", ""},
		{step(1, func(s *api.Step) { s.Party = "nobody" }), 1, api.ErrNone, "", ""},
		{registering(trip()), -1, api.ErrThere, "", ""},
		{starting("nobody"), 0, api.ErrNone, "", ""},
		{starting(""), 0, api.ErrForm, "", ""},
		{starting("\xff"), 0, api.ErrForm, "", ""},
		{reply(-1, 0, 1), 0, api.ErrArg, "", ""},
		{reply(0, -1, 1), 0, api.ErrArg, "", ""},
		{reply(0, 0, lowest), 0, api.ErrArg, "", ""},
		{reply(highest, 0, 1), 0, api.ErrNone, "", ""},
		{reply(0, 1, 1), 0, api.ErrLate, "", ""},
		{reply(0, 0, 2), 0, api.ErrLate, "", ""},
		{undone(0, 0), 0, api.ErrLate, "", ""},
		{yes(1, 1, 1), 0, api.ErrOver, "", ""},
		{ticking(0), 0, api.ErrArg, "", ""},
		{ticking(-1), 0, api.ErrArg, "", ""},
		{ticking(lowest), 0, api.ErrArg, "", ""},
	}
	for _, ask := range []func(id int) order{cancelling, retrying, skipping, abandoning, forgetting} {
		lines = append(lines, line{ask(-1), 0, api.ErrArg, "", ""}, line{ask(lowest), 0, api.ErrArg, "", ""}, line{ask(3), 0, api.ErrNone, "", ""}, line{ask(highest), 0, api.ErrNone, "", ""})
	}
	for _, ask := range []func(id int) order{retrying, skipping, abandoning, forgetting} {
		lines = append(lines, line{ask(0), 0, api.ErrState, "", ""})
	}
	for _, ask := range []func(id int) order{cancelling, retrying, skipping, abandoning} {
		lines = append(lines, line{ask(1), 0, api.ErrOver, "", ""})
	}
	lines = append(lines, line{cancelling(2), 0, api.ErrState, "", ""}, line{forgetting(2), 0, api.ErrState, "", ""})
	setup := append([]order{registering(trip()), starting("trip"), starting("trip"), yes(1, 0, 1), yes(1, 1, 1), starting("trip")}, parked(2)...)
	f := made(t, config(), setup...)
	is(t, f, 2, api.Parked, 0, 1, false)
	ahead := lookAt(f)
	for _, l := range lines {
		n, e := l.do(f)
		if n != l.n || e != l.e {
			t.Errorf("%s: %d and error %d, not %d and %d", l.what, n, e, l.n, l.e)
		}
		alike(t, l.what, lookAt(f), ahead)
	}
	f = made(t, with(func(c *api.Config) { c.Limit = 1 }), registering(trip()), starting("trip"))
	ahead = lookAt(f)
	if id, e := f.Start("trip"); id != 0 || e != api.ErrFull {
		t.Errorf("beyond the limit: %d %d", id, e)
	}
	alike(t, "beyond the limit", lookAt(f), ahead)
}

// P20.2: the outbox has what came out of several calls, in their order; Take empties it, the power doesn't.
func TestTake(t *testing.T) {
	f := made(t, config(), registering(trip()), starting("trip"), starting("trip"), starting("trip"), yes(1, 0, 1), no(0, 0, 1), ticking(2))
	want := "0/book/do#1 1/book/do#1 1/pay/do#1 2/book/do#1 0/book/do#2"
	if got := commands(f.outbox); got != want {
		t.Fatalf("the outbox has %q, not %q", got, want)
	}
	f.Crash()
	if got := commands(f.outbox); got != want {
		t.Fatalf("without power the outbox has %q", got)
	}
	restarts(t, f)
	l := f.Take()
	if got := commands(l); got != want {
		t.Fatalf("behind a restart %q is taken", got)
	}
	if c := (api.Command{Saga: 1, Step: 1, Try: 1, Party: "bank", Key: "1/pay/do"}); l[2] != c {
		t.Errorf("%+v, not %+v", l[2], c)
	}
	if len(f.Take()) != 0 {
		t.Error("it is taken twice")
	}
	ask(t, f, yes(1, 1, 1), yes(0, 0, 2))
	f.Crash()
	if got := commands(f.Take()); got != "0/pay/do#1" || len(f.Take()) != 0 {
		t.Errorf("without power %q is taken", got)
	}
	restarts(t, f)
	if len(f.Take()) != 0 {
		t.Error("a restart brings it again")
	}
}

// P20.2: Status and List.
func TestStatusAndList(t *testing.T) {
	orders := []order{registering(free())}
	for range 9 {
		orders = append(orders, starting("free"))
	}
	orders = append(orders, yes(1, 0, 1), yes(1, 1, 1)) // 1 is Completed
	orders = append(orders, parked(2)...)
	orders = append(orders, parked(4)...)
	orders = append(orders, abandoning(4))
	orders = append(orders, cancelling(5), cancelling(7), forgetting(5))
	orders = append(orders, yes(8, 0, 1), no(8, 1, 1), yes(6, 0, 1), no(6, 1, 1))
	f := made(t, roomy(), orders...)
	lists := map[int][]int{api.Running: {0, 3}, api.Undoing: {6, 8}, api.Parked: {2}, api.Completed: {1}, api.Compensated: {7}, api.Abandoned: {4}}
	wrong := []int{-1, -2, 6, 7, lowest, highest}
	for phase, want := range lists {
		if l, e := f.List(phase); e != api.OK || !slices.Equal(l, want) {
			t.Errorf("List(%d): %v %d, not %v", phase, l, e, want)
		}
		for _, id := range want {
			s, e := f.Status(id)
			if at := slices.IndexFunc(f.State().Sagas, func(x api.Saga) bool { return x.ID == id }); e != api.OK || s != f.State().Sagas[at] || s.Phase != phase {
				t.Errorf("Status(%d): %+v %d", id, s, e)
			}
		}
	}
	for _, phase := range wrong {
		if l, e := f.List(phase); e != api.ErrKind || len(l) != 0 {
			t.Errorf("List(%d): %v %d", phase, l, e)
		}
	}
	for _, id := range []int{5, 9, 10, -1, lowest, highest} {
		if s, e := f.Status(id); e != api.ErrNone || s != (api.Saga{}) {
			t.Errorf("Status(%d): %+v %d", id, s, e)
		}
	}
	f.Crash()
	for phase := range lists {
		if l, e := f.List(phase); e != api.ErrDown || len(l) != 0 {
			t.Errorf("without power List(%d): %v %d", phase, l, e)
		}
	}
	for _, phase := range wrong {
		if l, e := f.List(phase); e != api.ErrKind || len(l) != 0 {
			t.Errorf("without power List(%d): %v %d", phase, l, e)
		}
	}
	for _, id := range []int{0, 1, 5, 9, -1, lowest, highest} {
		if s, e := f.Status(id); e != api.ErrDown || s != (api.Saga{}) {
			t.Errorf("without power Status(%d): %+v %d", id, s, e)
		}
	}
	f = made(t, config())
	for phase := range 6 {
		if l, e := f.List(phase); e != api.OK || len(l) != 0 {
			t.Errorf("List(%d) of none: %v %d", phase, l, e)
		}
	}
}

// each is each call once, right and at fault, with what goes ahead of it.
func each() map[string][]order {
	setup := []order{registering(trip()), starting("trip")}
	behind := func(orders ...order) []order { return append(slices.Clone(setup), orders...) }
	atParked := func(orders ...order) []order { return append(behind(parked(0)...), orders...) }
	return map[string][]order{
		"Register":         behind(registering(free())),
		"Register there":   behind(registering(trip())),
		"Register wrong":   behind(registering(changed(free(), func(d *api.Def) { d.Steps[1].Timeout = 0 }))),
		"Register alone":   {registering(trip())},
		"Start":            behind(starting("trip")),
		"Start, no seat":   behind(starting("trip"), starting("trip")),
		"Start nobody":     behind(starting("nobody")),
		"Deliver":          behind(starting("trip"), starting("trip"), yes(0, 0, 1)),
		"Deliver bad":      behind(yes(0, 0, 1), no(0, 1, 1)),
		"Deliver late":     behind(yes(0, 1, 1)),
		"Cancel":           behind(starting("trip"), starting("trip"), cancelling(0)),
		"Cancel nobody":    behind(cancelling(7)),
		"Retry":            atParked(retrying(0)),
		"Skip":             atParked(skipping(0)),
		"Abandon":          atParked(abandoning(0)),
		"Forget":           atParked(abandoning(0), forgetting(0)),
		"Forget too early": atParked(forgetting(0)),
		"Tick":             behind(starting("trip"), starting("trip"), ticking(5)),
		"Tick far":         behind(starting("trip"), starting("trip"), ticking(highest)),
		"Tick of 0":        behind(ticking(0)),
		"Tick of nothing":  {ticking(4)},
		"Checkpoint":       behind(keeping()),
		"Checkpoint again": behind(keeping(), ticking(9), keeping()),
		"Checkpoint, none": {keeping()},
	}
}

// P20.2, P20.4: the power goes at each deed of a call: it answers ErrDown, and all that is told of it are the events up to the deed. A restart finds as many as are kept.
func TestPowerGoes(t *testing.T) {
	for what, orders := range each() {
		setup, call := orders[:len(orders)-1], orders[len(orders)-1]
		twin := made(t, config(), setup...)
		seen := len(twin.Past())
		wantN, wantE := call.do(twin)
		all := twin.Past()[seen:]
		told := 0
		for fuse := 1; ; fuse++ {
			f := made(t, config(), setup...)
			ahead := lookAt(f)
			f.Fuse(fuse)
			n, e := call.do(f)
			if !f.Down() {
				if n != wantN || e != wantE {
					t.Errorf("%s, fuse %d: %d %d", what, fuse, n, e)
				}
				f.Fuse(0)
				alike(t, what, lookAt(f), lookAt(twin))
				if told != len(all) {
					t.Errorf("%s: %d of %d events were told", what, told, len(all))
				}
				break
			}
			if n != call.none || e != api.ErrDown {
				t.Fatalf("%s, fuse %d: %d and error %d, not %d", what, fuse, n, e, call.none)
			}
			tail := f.Tail()
			if len(tail) < told || len(tail) > told+1 || tellEvents(tail) != tellEvents(all[:len(tail)]) {
				t.Fatalf("%s, fuse %d: the tail is %q behind %d", what, fuse, words(tail), told)
			}
			told = len(tail)
			behind := lookAt(f)
			if behind.Past != ahead.Past || behind.Outbox != ahead.Outbox || behind.State != tellState(api.State{}) || behind.Load != [4]int{} || behind.Now != twin.Now() {
				t.Fatalf("%s, fuse %d: %s", what, fuse, tell(behind))
			}
			restarts(t, f)
			alikeButFiles(t, what+", nothing kept", lookAt(f), ahead, twin.Now())
			tails(t, f, "")
			f = made(t, config(), setup...)
			f.Fuse(fuse)
			call.do(f)
			restarts(t, f, highest, highest, highest)
			pasts(t, f, words(append(twin.Past()[:seen], tail...)))
			tails(t, f, "")
			if lookAt(f).Outbox != ahead.Outbox {
				t.Fatalf("%s, fuse %d: the outbox is %q", what, fuse, lookAt(f).Outbox)
			}
		}
	}
}

// alikeButFiles holds that two looks are, but for their files, what there is to be done at another time, and the bytes of the log.
func alikeButFiles(t *testing.T, what string, got, want look, now int) {
	t.Helper()
	got.Files, want.Files = "", ""
	got.Load, want.Load = [4]int{got.Load[0]}, [4]int{want.Load[0]}
	want.Now = now
	alike(t, what, got, want)
}

// P20.2: the deeds of a call are its events, one by one, and that they are made safe.
func TestDeeds(t *testing.T) {
	for what, want := range map[string]int{"Register": 2, "Register there": 1, "Register wrong": 1, "Register alone": 2, "Start": 3, "Start, no seat": 2, "Start nobody": 1, "Deliver": 4, "Deliver late": 1, "Cancel nobody": 1, "Retry": 3, "Forget": 2, "Forget too early": 1, "Tick of 0": 1, "Tick of nothing": 0} {
		orders := each()[what]
		for fuse := 1; fuse <= want+1; fuse++ {
			f := made(t, config(), orders[:len(orders)-1]...)
			f.Fuse(fuse)
			orders[len(orders)-1].do(f)
			if f.Down() != (fuse <= want) {
				t.Errorf("%s has not %d deeds", what, want)
			}
		}
	}
}

// P20.2: while the power is gone each call answers ErrDown and does nothing, but that the time goes on.
func TestWhileGone(t *testing.T) {
	for _, tail := range []bool{false, true} {
		f := made(t, config(), append([]order{registering(trip()), starting("trip"), starting("trip")}, parked(1)...)...)
		want := ""
		if tail {
			f.Fuse(2)
			f.Cancel(0)
			want = "cancel0@0"
		} else {
			f.Crash()
		}
		ahead := lookAt(f)
		if !ahead.Down || ahead.State != tellState(api.State{}) || ahead.Load != [4]int{} || ahead.Outbox != "0/book/do#1 1/book/do#1 1/pay/do#1 1/book/undo#1" {
			t.Fatalf("%s", tell(ahead))
		}
		tails(t, f, want)
		orders := []order{
			registering(free()), registering(trip()), registering(api.Def{}), registering(changed(free(), func(d *api.Def) { d.Steps[1].Party = "nobody" })),
			starting("trip"), starting("nobody"), starting(""),
			yes(0, 0, 1), no(0, 0, 1), yes(9, 9, 9), delivering(api.Reply{Saga: -1}),
			ticking(0), ticking(-1), ticking(lowest), keeping(),
		}
		for _, ask := range []func(id int) order{cancelling, retrying, skipping, abandoning, forgetting} {
			orders = append(orders, ask(0), ask(1), ask(2), ask(-1), ask(highest))
		}
		for _, o := range orders {
			if n, e := o.do(f); n != o.none || e != api.ErrDown {
				t.Errorf("%s: %d and error %d", o.what, n, e)
			}
			alike(t, o.what, lookAt(f), ahead)
		}
		for _, n := range []int{1, 4, 300} {
			ahead.Now += n
			if e := f.Tick(n); e != api.ErrDown {
				t.Errorf("Tick(%d): %d", n, e)
			}
			alike(t, "Tick", lookAt(f), ahead)
		}
		restarts(t, f)
		if f.Now() != 305 {
			t.Errorf("the time is %d", f.Now())
		}
		is(t, f, 0, api.Running, 0, 1, true)
		play(t, f, line{ticking(1), 0, api.OK, "0/book/do#1 1/book/do#1 1/pay/do#1 1/book/undo#1", "late0@306 expire0@306"})
	}
}

// P20.2: ticks, with the power and without.
func TestTicks(t *testing.T) {
	for _, n := range []int{1, 2, lastTick - 1, lastTick, lastTick + 1, highest} {
		for _, down := range []bool{false, true} {
			f := made(t, config(), registering(trip()), ticking(1))
			want := api.OK
			if down {
				f.Crash()
				want = api.ErrDown
			}
			now := min(1+min(n, lastTick), lastTick)
			if e := f.Tick(n); e != want || f.Now() != now {
				t.Errorf("Tick(%d): %d, and the time is %d", n, e, f.Now())
			}
			if e := f.Tick(n); e != want || f.Now() != min(now+min(n, lastTick), lastTick) {
				t.Errorf("Tick(%d) again: %d, and the time is %d", n, e, f.Now())
			}
			for _, n := range []int{0, -1, lowest} {
				now := f.Now()
				if e := f.Tick(n); e != api.ErrArg && !down || e != api.ErrDown && down || f.Now() != now {
					t.Errorf("Tick(%d): %d, and the time is %d", n, e, f.Now())
				}
			}
			now = f.Now()
			f.Crash()
			restarts(t, f)
			if f.Now() != now {
				t.Errorf("behind a restart the time is %d, not %d", f.Now(), now)
			}
			if id, e := f.Start("trip"); id != 0 || e != api.OK {
				t.Fatal(id, e)
			}
			if s, _ := f.Status(0); s.Start != now {
				t.Errorf("at %d it begins at %d", now, s.Start)
			}
		}
	}
}

// P20.2, P20.4: in a tick at which the power goes the time goes on to the end, and so it does behind it.
func TestTickPowerGoes(t *testing.T) {
	f := made(t, config(), registering(trip()), starting("trip"), starting("trip"))
	f.Take()
	f.Fuse(3)
	if e := f.Tick(12); e != api.ErrDown || f.Now() != 12 {
		t.Fatalf("%d, and the time is %d", e, f.Now())
	}
	tails(t, f, "late0@5 late1@5 emit0@7")
	if e := f.Tick(7); e != api.ErrDown || f.Now() != 19 {
		t.Fatalf("%d, and the time is %d", e, f.Now())
	}
	tails(t, f, "late0@5 late1@5 emit0@7")
	restarts(t, f, 2*recordSize)
	pasts(t, f, "define0@0 start0@0 emit0@0 start1@0 emit1@0 late0@5 late1@5")
	is(t, f, 0, api.Running, 0, 1, false)
	play(t, f, line{ticking(1), 0, api.OK, "", "expire0@20 expire1@20"})
}

// P20.2: where there is no room for what is sent behind its event, a call has the error of that, its event is sure, and it isn't acknowledged.
func TestHalfDone(t *testing.T) {
	room := size(api.Event{Kind: api.EvDefine, Def: trip()}) + size(api.Event{Kind: api.EvStart, Name: "trip"})
	f := made(t, with(func(c *api.Config) { c.Volume = room + 10 }), registering(trip()))
	play(t, f, line{starting("trip"), 0, api.ErrSpace, "", "start0@0"})
	tails(t, f, "start0@0")
	loads(t, f, 0, 1, 1, room)
	play(t, f, line{starting("trip"), 0, api.ErrSpace, "", ""}, line{starting("nobody"), 0, api.ErrNone, "", ""}, line{cancelling(0), 0, api.ErrSpace, "", ""})
	tails(t, f, "start0@0")
	f.Crash()
	tails(t, f, "start0@0")
	pasts(t, f, "define0@0 start0@0")
	restarts(t, f)
	tails(t, f, "")
	pasts(t, f, "define0@0 start0@0")
	is(t, f, 0, api.Running, 0, 0, false)
	play(t, f, line{keeping(), 0, api.ErrSpace, "", ""})

	f = made(t, with(func(c *api.Config) { c.Volume = room + 10 }), registering(trip()))
	play(t, f, line{starting("trip"), 0, api.ErrSpace, "", "start0@0"}, line{ticking(3), 0, api.ErrSpace, "", ""})
	tails(t, f, "start0@0")
	f.Fuse(1)
	if e := f.Cancel(0); e != api.ErrDown {
		t.Fatal(e)
	}
	tails(t, f, "start0@0")
	restarts(t, f, highest)
	pasts(t, f, "define0@0 start0@0")
	tails(t, f, "")

	// With room for the emission, and for the one behind the next reply, but not for all that stands behind it.
	f = made(t, with(func(c *api.Config) { c.Volume = room + 2*recordSize }), registering(trip()), starting("trip"))
	tails(t, f, "")
	play(t, f, line{cancelling(0), 0, api.OK, "0/book/do#1", "cancel0@0"})
	tails(t, f, "")
	play(t, f, line{forgetting(0), 0, api.ErrSpace, "", ""}, line{starting("trip"), 0, api.ErrSpace, "", ""})
	tails(t, f, "")
}

// lone is a definition of one step, which is tried once.
func lone() api.Def {
	return api.Def{Name: "lone", Steps: []api.Step{{Name: "do", Party: "hotel", Timeout: 10, Try: plan(0), Undo: plan(0)}}}
}

// full is a config whose store has room for some events, and for one byte less than a further one.
func full(events ...api.Event) api.Config {
	room := recordSize - 1
	for _, v := range events {
		room += size(v)
	}
	return with(func(c *api.Config) { c.Volume = room })
}

// P20.4: what a call with another error did is told until the next call that is acknowledged, or the next restart.
func TestTailBehindErrors(t *testing.T) {
	begun := []api.Event{{Kind: api.EvDefine, Def: lone()}, {Kind: api.EvStart, Name: "lone"}, {Kind: api.EvEmit}, {Kind: api.EvStart, Name: "lone"}, {Kind: api.EvEmit}}
	c := full(append(begun, api.Event{Kind: api.EvLate})...)
	f := made(t, c, registering(lone()), starting("lone"), starting("lone"), ticking(9))
	f.Take()
	tails(t, f, "")
	play(t, f, line{ticking(2), 0, api.ErrSpace, "", "late0@10"})
	tails(t, f, "late0@10")
	play(t, f, line{ticking(1), 0, api.ErrSpace, "", ""}, line{starting("nobody"), 0, api.ErrNone, "", ""}, line{keeping(), 0, api.ErrSpace, "", ""}, line{ticking(0), 0, api.ErrArg, "", ""})
	tails(t, f, "late0@10")
	// At the end of time the other timer is set, and never goes: nothing is left to be done.
	play(t, f, line{ticking(highest), 0, api.ErrSpace, "", ""})
	tails(t, f, "late0@10")
	play(t, f, line{ticking(1), 0, api.OK, "", ""})
	tails(t, f, "")
	f.Crash()
	tails(t, f, "")
	restarts(t, f)
	pasts(t, f, "define0@0 start0@0 emit0@0 start1@0 emit1@0 late0@10")

	// What the power leaves undone is told behind it.
	c = full(begun[:4]...)
	c.Segment = 1
	f = made(t, c, registering(lone()), starting("lone"))
	play(t, f, line{starting("lone"), 0, api.ErrSpace, "0/do/do#1", "start1@0"}, line{keeping(), 0, api.ErrSpace, "", ""})
	f.Fuse(1)
	if e := f.Cancel(0); e != api.ErrDown {
		t.Fatal(e)
	}
	tails(t, f, "start1@0 cancel0@0")
	pasts(t, f, "define0@0 start0@0 emit0@0 start1@0")
	restarts(t, f, highest)
	tails(t, f, "")
	pasts(t, f, "define0@0 start0@0 emit0@0 start1@0")
}

// P20.2: in stores of all sizes each call answers, and leaves behind, what the chapter's words say.
func TestRoom(t *testing.T) {
	orders := []order{
		registering(trip()), starting("trip"), starting("trip"), registering(free()), starting("free"), yes(0, 0, 1), no(0, 1, 1), ticking(5),
		stuck(0, 0), retrying(0), keeping(), starting("trip"), ticking(2), skipping(0), cancelling(1), cancelling(2), forgetting(1), ticking(30), keeping(), abandoning(0), ticking(3),
	}
	seen := map[api.Errno]int{}
	for _, segment := range []int{1, 200, 100_000} {
		for volume := 1; volume < 2600; volume += 1 + volume/60 {
			c := config()
			c.Volume, c.Segment = volume, segment
			f, p := made(t, c), newPaper(c)
			for i, o := range orders {
				what := fmt.Sprintf("volume %d, segment %d, %d: %s", volume, segment, i, o.what)
				n, e := o.do(f)
				if m, g := o.do(p); n != m || e != g {
					t.Fatalf("%s: %d and error %d, not %d and %d", what, n, e, m, g)
				}
				seen[e]++
				p.holds(t, what, f)
			}
			f.Crash()
			p.Crash()
			p.holds(t, "crash", f)
			if e, g := f.Restart([]int{20}), p.Restart([]int{20}); e != g {
				t.Fatalf("Restart: %d, not %d", e, g)
			}
			p.holds(t, "restart", f)
		}
	}
	if seen[api.OK] == 0 || seen[api.ErrSpace] == 0 {
		t.Errorf("%v", seen)
	}
}

// P20.2: a store that has as many files as it may: each call that has something to put down answers ErrFull, and what was there is there.
func TestFiles(t *testing.T) {
	c := roomy()
	c.Segment, c.Limit = 1, 200
	for i := range c.Parties {
		c.Parties[i].Seats = 200
	}
	f := made(t, c, registering(free()))
	for range 127 {
		ask(t, f, starting("free"))
	}
	f.Take()
	if n := len(f.store.Names()); n != 255 {
		t.Fatalf("%d files", n)
	}
	play(t, f, line{starting("free"), 0, api.ErrFull, "", "start127@0"})
	tails(t, f, "start127@0")
	ahead := lookAt(f)
	for _, l := range []line{
		{registering(trip()), -1, api.ErrFull, "", ""},
		{starting("free"), 0, api.ErrFull, "", ""},
		{yes(0, 0, 1), 0, api.ErrFull, "", ""},
		{cancelling(0), 0, api.ErrFull, "", ""},
		{keeping(), 0, api.ErrFull, "", ""},
		{registering(free()), -1, api.ErrThere, "", ""},
		{starting("nobody"), 0, api.ErrNone, "", ""},
	} {
		play(t, f, l)
		alike(t, l.what, lookAt(f), ahead)
	}
	play(t, f, line{ticking(5), 0, api.ErrFull, "", ""})
	tails(t, f, "start127@0")
	f.Crash()
	restarts(t, f)
	alikeButFiles(t, "restart", lookAt(f), withoutTail(ahead), 5)

	f = made(t, c, registering(free()))
	for range 127 {
		ask(t, f, starting("free"))
	}
	x := tellState(f.State())
	play(t, f, line{keeping(), 0, api.OK, commands(f.outbox), ""})
	if got := tellState(f.State()); got != x || len(f.store.Names()) != 1 {
		t.Errorf("%d files, %s", len(f.store.Names()), tell(got))
	}
}

// withoutTail is a look behind a restart that finds all.
func withoutTail(l look) look {
	l.Tail = ""
	return l
}

// P20.2: a checkpoint of a state whose form is longer than a record may be.
func TestCheckpointLarge(t *testing.T) {
	f := made(t, config())
	for i := range 20 {
		ask(t, f, registering(big("big"+strconv.Itoa(i))))
	}
	ask(t, f, starting("big7"))
	ahead := lookAt(f)
	if e := f.Checkpoint(); e != api.ErrLarge {
		t.Fatalf("error %d", e)
	}
	alike(t, "Checkpoint", lookAt(f), ahead)
	f.Crash()
	if e := f.Checkpoint(); e != api.ErrDown {
		t.Errorf("without power: error %d", e)
	}
	restarts(t, f)
	alike(t, "restart", lookAt(f), ahead)
}

// P20.2: a checkpoint empties the log, and leaves all else as it is; so does one behind it.
func TestCheckpoint(t *testing.T) {
	f := made(t, config(), registering(trip()), starting("trip"), starting("trip"), starting("trip"), yes(0, 0, 1))
	ahead := lookAt(f)
	for range 3 {
		ask(t, f, keeping())
		behind := lookAt(f)
		if behind.Load[3] != 0 {
			t.Errorf("the log has %d bytes", behind.Load[3])
		}
		behind.Load[3], behind.Files = ahead.Load[3], ahead.Files
		alike(t, "Checkpoint", behind, ahead)
		f.Crash()
		restarts(t, f)
		// What waits is told anew: by the numbers of the sagas, not by who came first.
		alikeButFiles(t, "restart", lookAt(f), ahead, 0)
	}
}

// P20.3: Restart while the power is there.
func TestRestartState(t *testing.T) {
	for what, orders := range each() {
		f := made(t, config(), orders[:len(orders)-1]...)
		f.Fuse(900)
		orders[len(orders)-1].do(f)
		ahead := lookAt(f)
		for _, keep := range [][]int{nil, {}, {0}, {highest, 1, -1}} {
			if e := f.Restart(keep); e != api.ErrState {
				t.Errorf("%s: error %d", what, e)
			}
			alike(t, what, lookAt(f), ahead)
		}
	}
}

// P20.3: Crash, with the power and without.
func TestCrash(t *testing.T) {
	f := made(t, config(), registering(trip()), starting("trip"), ticking(2))
	ahead := lookAt(f)
	for range 3 {
		f.Crash()
		want := ahead
		want.Down, want.State, want.Load, want.Files = true, tellState(api.State{}), [4]int{}, ""
		want.Sagas, want.Lists = lookAt(f).Sagas, lookAt(f).Lists
		alike(t, "crash", lookAt(f), want)
	}
	restarts(t, f)
	alike(t, "restart", lookAt(f), ahead)
}

// P20.3: a crash takes the fuse, also where the power is gone.
func TestCrashTakesFuse(t *testing.T) {
	f := made(t, config(), registering(trip()))
	f.Fuse(1)
	f.Crash()
	restarts(t, f)
	ask(t, f, starting("trip"))
	f.Crash()
	f.Fuse(1)
	f.Crash()
	restarts(t, f)
	ask(t, f, starting("trip"))
}

// P20.3: the fuse, by its numbers; the one that is set last counts.
func TestFuse(t *testing.T) {
	f := made(t, config(), registering(trip()))
	for _, n := range []int{0, -1, lowest, 900, highest} {
		f.Fuse(n)
		ask(t, f, starting("trip"))
	}
	f.Fuse(1)
	f.Fuse(0)
	ask(t, f, cancelling(0))
	f.Fuse(1)
	f.Fuse(-1)
	ask(t, f, cancelling(1))
	f.Fuse(1)
	f.Fuse(9)
	ask(t, f, forgetting(0))
	f.Fuse(9)
	f.Fuse(2)
	if e := f.Forget(1); e != api.ErrDown || !f.Down() {
		t.Errorf("at the second deed: %d", e)
	}
	tails(t, f, "forget1@0")

	// It counts the deeds of several calls.
	f = made(t, config(), registering(trip()))
	f.Fuse(4)
	ask(t, f, starting("trip"))
	if id, e := f.Start("trip"); id != 0 || e != api.ErrDown {
		t.Errorf("at the fourth deed: %d %d", id, e)
	}
	tails(t, f, "start1@0")

	// It goes on counting behind a restart, if it was set while the power was gone.
	f.Fuse(2)
	restarts(t, f)
	if id, e := f.Start("trip"); id != 0 || e != api.ErrDown {
		t.Errorf("at the second deed behind a restart: %d %d", id, e)
	}
	tails(t, f, "start1@0 emit1@0")
}

// P20.3, P20.5: of what isn't safe there is as much as keep tells, and what of it is whole is found.
func TestRestartKeeps(t *testing.T) {
	begun := api.Event{Kind: api.EvStart, Name: "trip"}
	a, b := size(begun), recordSize
	ahead := "define0@0 start0@0 emit0@0"
	found := func(n int) string {
		switch {
		case n < a:
			return ahead
		case n < a+b:
			return ahead + " start1@0"
		}
		return ahead + " start1@0 emit1@0"
	}
	for _, checkpoint := range []bool{false, true} {
		lost := func() *Front {
			f := made(t, config(), registering(trip()), starting("trip"))
			if checkpoint {
				ask(t, f, keeping())
			}
			f.Fuse(3)
			if id, e := f.Start("trip"); id != 0 || e != api.ErrDown {
				t.Fatal(id, e)
			}
			tails(t, f, "start1@0 emit1@0")
			return f
		}
		for n := -2; n < a+b+3; n++ {
			for _, behind := range [][]int{nil, {-1}, {0, highest, 7}} {
				f := lost()
				keep := append([]int{n}, behind...)
				if checkpoint { // its file comes ahead of the log's
					keep = append([]int{3}, keep...)
				}
				restarts(t, f, keep...)
				pasts(t, f, found(n))
				tails(t, f, "")
				if got := commands(f.Take()); got != "0/book/do#1" {
					t.Fatalf("out came %q", got)
				}
				if n >= a {
					is(t, f, 1, api.Running, 0, n/(a+b), n >= a+b)
				} else if _, e := f.Status(1); e != api.ErrNone {
					t.Fatalf("saga 1: %d", e)
				}
			}
		}
		for keep, n := range map[int]int{lowest: 0, highest: a + b} {
			f := lost()
			restarts(t, f, keep, keep)
			pasts(t, f, found(n))
		}
		f := lost()
		restarts(t, f)
		pasts(t, f, ahead)
	}
}

// P20.3, P20.4: the power goes again at a deed of a restart: it answers ErrDown, all that is told stays, and the restart behind it finds what the first one kept.
func TestRestartPowerGoes(t *testing.T) {
	begun := api.Event{Kind: api.EvStart, Name: "trip"}
	lost := func() *Front {
		f := made(t, config(), registering(trip()), starting("trip"))
		f.Fuse(3)
		f.Start("trip")
		f.Tick(6)
		return f
	}
	deeds := 0
	for fuse := 1; ; fuse++ {
		f := lost()
		ahead := lookAt(f)
		f.Fuse(fuse)
		e := f.Restart([]int{size(begun) + 5}) // what is torn behind it is cut off, and that is made safe
		if e == api.OK {
			break
		}
		deeds++
		if e != api.ErrDown || !f.Down() {
			t.Fatalf("fuse %d: %d", fuse, e)
		}
		alike(t, "the power went again", lookAt(f), ahead)
		tails(t, f, "start1@0 emit1@0")
		f.Tick(2)
		if fuse == 1 { // nothing was cut off
			f.Fuse(2)
			if e := f.Restart([]int{0}); e != api.ErrDown {
				t.Fatalf("again: %d", e)
			}
		}
		tails(t, f, "start1@0 emit1@0")
		restarts(t, f, highest)
		tails(t, f, "")
		pasts(t, f, "define0@0 start0@0 emit0@0 start1@0")
		is(t, f, 1, api.Running, 0, 0, false)
		if f.Now() != 8 {
			t.Errorf("the time is %d", f.Now())
		}
	}
	if deeds != 2 {
		t.Errorf("the power went at %d deeds", deeds)
	}
}

// P20.3, P20.4: the power goes in a checkpoint, and again in the restarts behind it: the state stays, and there is nothing that isn't sure.
func TestRestartBehindCheckpoint(t *testing.T) {
	for fuse := 1; fuse < 9; fuse++ {
		for again := range 6 {
			f := made(t, with(func(c *api.Config) { c.Segment = 1 }), registering(trip()), starting("trip"), keeping(), starting("trip"), yes(0, 0, 1))
			ahead := lookAt(f)
			f.Fuse(fuse)
			e := f.Checkpoint()
			tails(t, f, "")
			if f.Down() != (e == api.ErrDown) {
				t.Fatalf("fuse %d: %d", fuse, e)
			}
			f.Crash()
			f.Fuse(again)
			if e := f.Restart([]int{30, 30, 30}); e != api.OK && e != api.ErrDown {
				t.Fatalf("fuses %d and %d: %d", fuse, again, e)
			}
			f.Crash()
			tails(t, f, "")
			restarts(t, f, 30, 30, 30)
			alikeButFiles(t, fmt.Sprintf("fuses %d and %d", fuse, again), lookAt(f), ahead, 0)
			ask(t, f, yes(0, 1, 1))
		}
	}
}

// P20.3: restarts one behind the other, of an empty front, behind a checkpoint, behind many segments.
func TestRestarts(t *testing.T) {
	orders := []order{registering(trip()), starting("trip"), starting("trip"), yes(0, 0, 1), ticking(2), no(0, 1, 1)}
	fronts := map[string]*Front{
		"empty":             made(t, config()),
		"some":              made(t, config(), orders...),
		"many segments":     made(t, with(func(c *api.Config) { c.Segment = 1 }), orders...),
		"checkpoint":        made(t, config(), append(slices.Clone(orders), keeping())...),
		"behind checkpoint": made(t, config(), append(append([]order{keeping()}, orders...), keeping(), starting("trip"))...),
	}
	for what, f := range fronts {
		ahead := lookAt(f)
		for i := range 3 {
			f.Crash()
			if e := f.Restart([]int{i, i}); e != api.OK {
				t.Fatalf("%s: %d", what, e)
			}
			if e := f.Restart(nil); e != api.ErrState {
				t.Errorf("%s: %d", what, e)
			}
			alikeButFiles(t, what, lookAt(f), ahead, f.Now())
		}
	}
}

// P20.3: a restart makes breakers anew, and arms what is there: sagas go on where they were.
func TestRestartGoesOn(t *testing.T) {
	c := with(func(c *api.Config) { c.Parties[0].Trip, c.Parties[0].Cool = 1, 1000 })
	f := made(t, c, registering(trip()), starting("trip"), starting("trip"), no(0, 0, 1))
	f.Take()
	play(t, f, line{ticking(2), 0, api.OK, "", ""}) // the hotel is left alone
	loads(t, f, 1, 1, 2, f.logSize())
	f.Crash()
	f.Tick(1)
	restarts(t, f)
	loads(t, f, 1, 1, 2, f.logSize())
	play(t, f,
		line{yes(1, 0, 1), 0, api.OK, "1/pay/do#1 0/book/do#2", "reply1@3 emit1@3 emit0@3"},
		line{ticking(3), 0, api.OK, "1/book/undo#1", "late1@6 emit1@6"},
		line{undone(1, 0), 0, api.OK, "", "reply1@6"},
	)
	is(t, f, 1, api.Compensated, 0, 1, false)
}

// P20.4: Past and Tail over several restarts.
func TestPast(t *testing.T) {
	f := made(t, config())
	pasts(t, f, "")
	past := "define0@0 start0@0 emit0@0"
	ask(t, f, registering(trip()), starting("trip"))
	pasts(t, f, past)
	f.Crash()
	pasts(t, f, past)
	tails(t, f, "")
	restarts(t, f, highest)
	pasts(t, f, past)
	f.Fuse(3)
	f.Start("trip") // the power goes as its events are made safe
	tails(t, f, "start1@0 emit1@0")
	pasts(t, f, past)
	restarts(t, f, size(api.Event{Kind: api.EvStart, Name: "trip"}))
	past += " start1@0"
	pasts(t, f, past)
	ask(t, f, ticking(1)) // it sends what was found
	past += " emit1@1"
	pasts(t, f, past)
	f.Fuse(1)
	f.Cancel(0) // it goes ahead of its event's being safe
	f.Tick(3)
	tails(t, f, "cancel0@1")
	restarts(t, f)
	tails(t, f, "")
	pasts(t, f, past)
	f.Fuse(1)
	f.Cancel(0)
	tails(t, f, "cancel0@4")
	restarts(t, f, highest)
	past += " cancel0@4"
	pasts(t, f, past)
	ask(t, f, keeping())
	pasts(t, f, past)
	if e := f.Cancel(7); e != api.ErrNone {
		t.Fatal(e)
	}
	pasts(t, f, past)
	f.Fuse(2)
	f.Forget(0)
	tails(t, f, "forget0@4")
	restarts(t, f, highest, highest)
	past += " forget0@4"
	pasts(t, f, past)
	f.Crash()
	restarts(t, f)
	pasts(t, f, past)
	if got := commands(f.Take()); got != "0/book/do#1 1/book/do#1" {
		t.Errorf("out came %q", got)
	}
}

// P20.4: an event that went by, and one that was found, are told whole.
func TestEventsWhole(t *testing.T) {
	f := made(t, config(), registering(trip()))
	reply := api.Reply{Step: 0, Try: 1, Good: true}
	want := []api.Event{{Kind: api.EvDefine, Def: trip()}, {Kind: api.EvStart, Name: "trip"}, {Kind: api.EvEmit}, {Kind: api.EvReply, Now: 2, Reply: reply}}
	ask(t, f, starting("trip"), ticking(2))
	f.Fuse(1)
	f.Deliver(reply)
	if got := tellEvents(f.Tail()); got != tellEvents(want[3:]) {
		t.Errorf("Tail: %s", tell(got))
	}
	restarts(t, f, highest)
	f.Fuse(2)
	f.Register(free())
	want = append(want, api.Event{Kind: api.EvDefine, Now: 2, Def: free()})
	if got := tellEvents(f.Tail()); got != tellEvents(want[4:]) {
		t.Errorf("Tail: %s", tell(got))
	}
	restarts(t, f, highest)
	if got := tellEvents(f.Past()); got != tellEvents(want) {
		t.Errorf("Past: %s", tell(got))
	}
}

// P20.4: Load.
func TestLoad(t *testing.T) {
	f := made(t, config())
	log := 0
	load := func(flying, queued, timers int, events ...api.Event) {
		t.Helper()
		for _, v := range events {
			log += size(v)
		}
		loads(t, f, flying, queued, timers, log)
	}
	start, plain := api.Event{Kind: api.EvStart, Name: "trip"}, api.Event{Kind: api.EvEmit}
	reply := api.Event{Kind: api.EvReply}
	ask(t, f, registering(trip()))
	load(0, 0, 0, api.Event{Kind: api.EvDefine, Def: trip()})
	ask(t, f, starting("trip"), starting("trip"))
	load(2, 0, 2, start, start, plain, plain)
	ask(t, f, starting("trip"), starting("trip")) // two wait for a seat, and each has a timer at its end
	load(2, 2, 4, start, start)
	ask(t, f, yes(0, 0, 1)) // one to the bank, two to the hotel
	load(3, 1, 4, reply, plain, plain)
	ask(t, f, yes(1, 0, 1)) // the bank's seat is taken
	load(3, 1, 4, reply, plain)
	ask(t, f, yes(0, 1, 1))
	load(3, 0, 3, reply, plain)
	f.Fuse(50)
	f.Crash()
	loads(t, f, 0, 0, 0, 0)
	f.Tick(2)
	loads(t, f, 0, 0, 0, 0)
	restarts(t, f)
	load(3, 0, 3)
	ask(t, f, keeping())
	log = 0
	load(3, 0, 3)
	ask(t, f, cancelling(2))
	load(2, 0, 2, plain)
}

// P20.4: State, Tail, Past, Take and List answer new memory, and nothing that is handed in is kept.
func TestMemory(t *testing.T) {
	c := config()
	d := trip()
	f := made(t, c, registering(d))
	d.Steps[0].Name, d.Steps[1].Party = "other", "nobody"
	c.Parties[0].Name, c.Parties[1].Seats = "other", 0
	ask(t, f, starting("trip"), starting("trip"))
	f.Fuse(3)
	f.Register(free())
	f.Fuse(0)
	ask(t, f, ticking(1))
	f.Fuse(2)
	e := free()
	e.Name = "third"
	if _, g := f.Register(e); g != api.ErrDown {
		t.Fatal(g)
	}
	e.Steps[0].Name = "other"
	spoil := func() {
		for _, l := range [][]api.Event{f.Tail(), f.Past()} {
			for i := range l {
				for j := range l[i].Def.Steps {
					l[i].Def.Steps[j].Name = "spoilt"
				}
				_ = append(l[i].Def.Steps, api.Step{Name: "spoilt"})
				l[i].Kind, l[i].Name = 77, "spoilt"
			}
			_ = append(l, api.Event{Kind: 77}, api.Event{Kind: 77})
		}
		x := f.State()
		for i := range x.Defs {
			x.Defs[i].Steps[0].Name = "spoilt"
			x.Defs[i].Name = "spoilt"
		}
		for i := range x.Sagas {
			x.Sagas[i].Phase = 77
		}
		_, _ = append(x.Defs, api.Def{Name: "spoilt"}), append(x.Sagas, api.Saga{ID: 77})
		for phase := range 6 {
			l, _ := f.List(phase)
			for i := range l {
				l[i] = 77
			}
		}
	}
	untouched := func(what string) {
		t.Helper()
		ahead := lookAt(f)
		spoil()
		alike(t, what, lookAt(f), ahead)
	}
	untouched("without power")
	keep := []int{highest, highest}
	restarts(t, f, keep...)
	if !slices.Equal(keep, []int{highest, highest}) {
		t.Errorf("keep is %v", keep)
	}
	pasts(t, f, "define0@0 start0@0 emit0@0 start1@0 emit1@0 define0@0 define0@1")
	untouched("behind a restart")
	ask(t, f, yes(0, 0, 1), starting("third"))
	untouched("behind calls")
	f.Crash()
	restarts(t, f)
	untouched("behind two restarts")
	l := f.Take()
	kept := slices.Clone(l)
	ask(t, f, yes(1, 0, 1), yes(0, 1, 1))
	if !slices.Equal(l, kept) {
		t.Errorf("what was taken is %+v, no more %+v", l, kept)
	}
	for i := range l {
		l[i].Key = "spoilt"
	}
	_ = append(l, api.Command{Key: "spoilt"})
	if got := commands(f.Take()); got != "1/pay/do#1" {
		t.Errorf("out came %q", got)
	}
	if x := f.State(); x.Defs[0].Steps[0].Name != "book" || len(x.Defs) != 3 {
		t.Errorf("%+v", x.Defs)
	}
}

// P20.4: what lies behind the length of a list that is handed in is neither read nor written.
func TestBehindLength(t *testing.T) {
	c := config()
	parties := append(slices.Clone(c.Parties), api.Party{Name: "hotel"})
	c.Parties = parties[:2]
	d := trip()
	steps := append(slices.Clone(d.Steps), api.Step{Name: "behind"})
	d.Steps = steps[:2]
	f := made(t, c, registering(d), starting("trip"))
	f.Fuse(3)
	f.Start("trip")
	keep := []int{0, highest, 7}
	restarts(t, f, keep[:1]...)
	pasts(t, f, "define0@0 start0@0 emit0@0")
	if parties[2] != (api.Party{Name: "hotel"}) || steps[2] != (api.Step{Name: "behind"}) || !slices.Equal(keep, []int{0, highest, 7}) {
		t.Errorf("%v %v %v", parties, steps, keep)
	}
}

// The chapter's example.
func TestExample(t *testing.T) {
	f := made(t, config(), registering(trip()), starting("trip"))
	want := []api.Command{{Saga: 0, Step: 0, Try: 1, Party: "hotel", Key: "0/book/do"}}
	if l := f.Take(); !slices.Equal(l, want) {
		t.Errorf("%+v", l)
	}
	f.Crash()
	restarts(t, f)
	is(t, f, 0, api.Running, 0, 1, true)
}

// P1: whatever is asked for, each call ends.
func TestAnyArguments(t *testing.T) {
	edges := []int{lowest, lowest + 1, -1, 0, 1, 2, 31, 32, 33, 1000, lastTick, lastTick + 1, highest}
	names := []string{"", "a", "trip", "ÿþ", strings.Repeat("x", 65), strings.Repeat("ä", 100_000), "a/b", "1"}
	for _, down := range []bool{false, true} {
		f := made(t, config(), registering(trip()), starting("trip"))
		if down {
			f.Crash()
		}
		for _, name := range names {
			f.Start(name)
			f.Register(api.Def{Name: name, Steps: []api.Step{{Name: name, Party: name}}})
			f.Register(changed(trip(), func(d *api.Def) { d.Steps[0].Name = name }))
			New(with(func(c *api.Config) { c.Parties[0].Name = name }))
		}
		f.Register(api.Def{Name: "long", Steps: slices.Repeat(trip().Steps, 10_000)})
		for _, a := range edges {
			for _, ask := range []func(id int) order{cancelling, retrying, skipping, abandoning, forgetting, ticking} {
				ask(a).do(f)
			}
			f.Status(a)
			f.List(a)
			for _, b := range edges {
				f.Deliver(api.Reply{Saga: a, Step: b, Try: a})
				f.Deliver(api.Reply{Saga: 0, Step: a, Undo: true, Try: b, Good: true})
			}
		}
		f.Crash()
		if e := f.Restart(slices.Repeat(edges, 100)); e != api.OK {
			t.Error(e)
		}
		for _, n := range edges {
			f.Fuse(n)
			f.Tick(1)
			f.Crash()
			f.Restart(nil)
		}
		pasts(t, f, words(f.Past()))
	}
}
