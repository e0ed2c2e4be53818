package engine

import (
	"fmt"
	"slices"
	"strconv"
	"testing"

	"usufruct/api"
	"usufruct/def"
	"usufruct/journal"
	"usufruct/saga"
	"usufruct/state"
	"usufruct/store"
)

// world is a drawn row's: an engine and one on paper, each over its own store, and what the tests know of them.
type world struct {
	*mixer
	t            *testing.T
	parties      []api.Party
	limits       [2]int // the engine's and the journal's
	ageing, size int
	s, twin      *store.Store
	g            *Engine
	p            *paper
	base         api.State // at New
	came         []api.Command
	sent         []api.Command // all that ever came out
	what         string
	timely       bool        // the time went on since New, and since it did, there was no error of it
	kinds        map[int]int // how many events of each kind were done
}

// newWorld draws parties, limits and stores.
func newWorld(t *testing.T, m *mixer) *world {
	w := &world{mixer: m, t: t, kinds: map[int]int{}, limits: [2]int{pick(m, 1, 3, 5, 8), pick(m, 3, 5, 8)}, ageing: pick(m, 1, 3, 100), size: pick(m, 1, 150, 1000)}
	for _, name := range []string{"hotel", "bank", "taxi"} {
		w.parties = append(w.parties, api.Party{Name: name, Seats: pick(m, 1, 1, 2, 5), Trip: pick(m, 1, 2, 3, 100), Cool: pick(m, 0, 1, 5, 20), Probes: pick(m, 1, 1, 2)})
	}
	room := pick(m, 1<<20, 1<<20, 1200, 1600, 2000)
	w.s, w.twin = store.New(room), store.New(room)
	w.open(pick(m, 0, 0, 7, lastTick-60))
	return w
}

// open makes journals and engines anew; false: it can't be, and then it can't be on paper, either.
func (w *world) open(now int) bool {
	j, e := journal.Open(w.s, w.size, w.limits[1])
	k, f := journal.Open(w.twin, w.size, w.limits[1])
	if e != f {
		w.t.Fatalf("%s: open: %d and %d", w.what, e, f)
	}
	if e != api.OK {
		return false
	}
	g, at, e := New(j, w.parties, w.limits[0], w.ageing, now)
	if at != -1 || e != api.OK {
		w.t.Fatalf("%s: New: %d %d", w.what, at, e)
	}
	w.g, w.p = g, newPaper(w.twin, k, w.parties, w.limits[0], w.ageing, now)
	w.base, w.came, w.timely = g.State(), nil, false
	w.check(false)
	return true
}

// restart takes the power, brings it again, and makes all of it anew, till that can be done.
func (w *world) restart() {
	w.count()
	now := w.g.Now() + pick(w.mixer, 0, 0, 1, 30)
	for {
		w.s.Crash()
		w.twin.Crash()
		keep := make([]int, 300)
		for i := range keep {
			keep[i] = pick(w.mixer, 0, 10, 40, 1<<20)
		}
		w.s.Boot(keep)
		w.twin.Boot(keep)
		if w.below(5) == 0 {
			n := 1 + w.below(4)
			w.s.Fuse(n)
			w.twin.Fuse(n)
		}
		if w.open(min(now, lastTick)) {
			return
		}
	}
}

// def draws a definition, most often one that is right.
func (w *world) def() api.Def {
	plan := func() api.Plan {
		return api.Plan{Retries: pick(w.mixer, 0, 0, 1, 2), Base: 1 + w.below(3), Factor: 1 + w.below(2), Cap: 4}
	}
	d := api.Def{Name: pick(w.mixer, "a", "b", "c", "d"), Deadline: pick(w.mixer, 0, 0, 6, 15, 40)}
	for i := range 1 + w.below(3) {
		party := pick(w.mixer, "hotel", "bank", "taxi")
		if w.below(15) == 0 {
			party = "nobody"
		}
		d.Steps = append(d.Steps, api.Step{Name: "s" + strconv.Itoa(i), Party: party, Timeout: pick(w.mixer, 0, 1, 1, 2, 3, 5, 5, 9), Try: plan(), Undo: plan(), Prio: w.below(3)})
	}
	return d
}

// some draws a saga, most often one of a phase that a test of it holds for.
func (w *world) some(wanted func(s api.Saga) bool) (api.Saga, bool) {
	l := w.g.State().Sagas
	if w.below(6) > 0 {
		l = slices.DeleteFunc(l, func(s api.Saga) bool { return !wanted(s) })
	}
	if len(l) == 0 {
		return api.Saga{}, false
	}
	return pick(w.mixer, l...), true
}

// reply draws a reply, most often one to a try that was emitted.
func (w *world) reply() api.Reply {
	r := api.Reply{Saga: w.below(6) - 1, Step: w.below(4) - 1, Undo: w.below(2) == 0, Try: w.below(4) - 1}
	if n := len(w.sent); n > 0 && w.below(3) == 0 {
		c := w.sent[n-1-w.below(min(n, 8))]
		r = api.Reply{Saga: c.Saga, Step: c.Step, Undo: c.Undo, Try: c.Try}
	} else if s, ok := w.some(func(s api.Saga) bool { return s.Tries > 0 && s.Phase < api.Parked }); ok && w.below(6) > 0 {
		r = api.Reply{Saga: s.ID, Step: s.Step, Undo: s.Phase != api.Running, Try: max(s.Tries-w.below(6)/5, 0)}
	}
	r.Good = w.below(3) > 0 != (r.Undo && w.below(2) == 0)
	return r
}

// ask draws a call of a client or an operator.
func (w *world) ask() (kind, id int) {
	if s, ok := w.some(func(s api.Saga) bool { return s.Phase >= api.Parked }); ok && w.below(8) > 0 {
		if s.Phase == api.Parked {
			return api.EvRetry + w.below(3), s.ID
		}
		return pick(w.mixer, api.EvForget, api.EvForget, api.EvForget, api.EvCancel, api.EvSkip), s.ID
	}
	if s, ok := w.some(func(s api.Saga) bool { return s.Phase == api.Running }); ok && w.below(3) == 0 {
		return api.EvCancel, s.ID
	}
	return w.below(13) - 1, w.below(8) - 1
}

// act does one drawn thing, and holds what it answers; settled: something was sent, or could have been, without an error.
func (w *world) act() (settled bool) {
	var got, want string
	var e, f api.Errno
	n := w.below(100)
	if w.s.Down() && w.below(4) == 0 {
		n = 99
	}
	switch {
	case n < 4:
		d := w.def()
		at, e := w.g.Register(d)
		place, f := w.p.register(d)
		got, want = fmt.Sprint("Register ", at, e), fmt.Sprint("Register ", place, f)
	case n < 19:
		name := pick(w.mixer, "a", "b", "c", "d", "nobody", "2")
		if l := w.g.State().Defs; len(l) > 0 && w.below(6) > 0 {
			name = pick(w.mixer, l...).Name
		}
		var id, number int
		id, e = w.g.Start(name)
		number, f = w.p.start(name)
		got, want, settled = fmt.Sprint("Start ", id, e), fmt.Sprint("Start ", number, f), e == api.OK
	case n < 50:
		r := w.reply()
		e, f = w.g.Deliver(r), w.p.deliver(r)
		got, want, settled = fmt.Sprint("Deliver ", r, e), fmt.Sprint("Deliver ", r, f), e == api.OK
	case n < 65:
		kind, id := w.ask()
		e, f = w.g.Call(kind, id), w.p.call(kind, id)
		got, want, settled = fmt.Sprint("Call ", kind, id, e), fmt.Sprint("Call ", kind, id, f), e == api.OK
	case n < 84:
		n := pick(w.mixer, 1, 1, 1, 2, 3, 5, 20, 0, -3)
		if w.below(100) == 0 {
			n = highest
		}
		e, f = w.g.Tick(n), w.p.tick(n)
		got, want, settled = fmt.Sprint("Tick ", n, e), fmt.Sprint("Tick ", n, f), e == api.OK
		w.timely = e == api.OK || w.timely && e == api.ErrArg
	case n < 92:
		l, e := w.g.Flush()
		m, f := w.p.flush()
		got, want = fmt.Sprint("Flush ", l, e), fmt.Sprint("Flush ", m, f)
		w.came, w.sent = append(w.came, l...), append(w.sent, l...)
	case n < 95:
		got, want = fmt.Sprint("Checkpoint ", w.g.Checkpoint()), fmt.Sprint("Checkpoint ", w.p.j.Checkpoint())
	case n < 98:
		n := w.below(9)
		w.s.Fuse(n)
		w.twin.Fuse(n)
	default:
		w.restart()
	}
	if got != want {
		w.t.Fatalf("%s: %s, not %s", w.what, got, want)
	}
	w.what += "; " + got
	w.what = w.what[max(0, len(w.what)-800):]
	return settled
}

// check holds the engine against the one on paper, and the promises of what is seen of it.
func (w *world) check(settled bool) {
	w.t.Helper()
	w.p.holds(w.t, w.what, w.g, w.s)
	x, now := w.g.State(), w.g.Now()
	for i, party := range w.parties {
		if n := state.Flying(x, party.Name); w.g.Flying(party.Name) != n || n > party.Seats {
			w.t.Fatalf("%s: %d in flight to %s, %d tries out", w.what, w.g.Flying(party.Name), party.Name, n)
		}
		open := w.g.Flying(party.Name) < party.Seats && w.g.Breaker(party.Name) == api.Closed
		for _, s := range x.Sagas {
			d, _ := state.Def(x, s.Def)
			may := saga.May(d, s, now) && d.Steps[s.Step].Party == party.Name
			if settled && may && (open || w.p.gates.May(i, now) == api.OK) {
				w.t.Fatalf("%s: saga %d may go to %s: %s", w.what, s.ID, party.Name, tell(x))
			}
		}
	}
	for _, s := range x.Sagas {
		d, _ := state.Def(x, s.Def)
		if w.timely && now < lastTick && (s.Out && s.At <= now || s.Phase == api.Running && def.End(d, s.Start) <= now) {
			w.t.Fatalf("%s: saga %d was due: %s", w.what, s.ID, tell(x))
		}
	}
	if queued, timers := w.g.Waiting(); queued > len(x.Sagas) || timers > len(x.Sagas) || len(x.Sagas) > w.limits[0] {
		w.t.Fatalf("%s: %d entries, %d timers of %d sagas", w.what, queued, timers, len(x.Sagas))
	} else if len(w.g.entries) != queued || len(w.g.timers) != timers {
		w.t.Fatalf("%s: handles of %d entries and %d timers are kept, there are %d and %d", w.what, len(w.g.entries), len(w.g.timers), queued, timers)
	}
}

// count counts the events that were done since New.
func (w *world) count() {
	for _, v := range w.g.Done() {
		w.kinds[v.Kind]++
	}
}

// told holds that each event that was done is one that layer 16 does, that they come to the state, and that each command that they emit comes out once, in their order.
func (w *world) told() {
	w.t.Helper()
	x := w.base
	var emitted []api.Command
	last := 0
	for i, v := range w.g.Done() {
		y, c, e := state.Do(x, v, w.limits[0])
		if e != api.OK || v.Now < last {
			w.t.Fatalf("%s: event %d %s: %d", w.what, i, tell(v), e)
		}
		x, last = y, v.Now
		if v.Kind == api.EvEmit {
			emitted = append(emitted, c)
		}
	}
	if !state.Same(x, w.g.State()) {
		w.t.Fatalf("%s: the events come to %s, the state is %s", w.what, tell(x), tell(w.g.State()))
	}
	l, e := w.g.Flush()
	w.p.flush()
	if e == api.OK {
		w.came, w.sent = append(w.came, l...), append(w.sent, l...)
		if !slices.Equal(w.came, emitted) {
			w.t.Fatalf("%s: out came %s, not %s", w.what, commands(w.came), commands(emitted))
		}
	} else if n := len(w.came); n > len(emitted) || !slices.Equal(w.came, emitted[:n]) {
		w.t.Fatalf("%s: out came %s, not the first of %s", w.what, commands(w.came), commands(emitted))
	}
}

// P18.1 to P18.5: drawn rows of all calls, with the power going, and stores that are full.
func TestDrawnRows(t *testing.T) {
	kinds := map[int]int{}
	for seed := range 400 {
		m := mixer(seed)
		w := newWorld(t, &m)
		w.what = "seed " + strconv.Itoa(seed)
		for range 3 {
			d := w.def()
			w.g.Register(d)
			w.p.register(d)
		}
		for range 120 {
			w.check(w.act())
			if w.below(10) == 0 {
				w.told()
			}
		}
		w.told()
		w.count()
		for kind, n := range w.kinds {
			kinds[kind] += n
		}
	}
	for kind := api.EvDefine; kind <= api.EvForget; kind++ {
		if kinds[kind] < 30 {
			t.Errorf("kind %d was done %d times", kind, kinds[kind])
		}
	}
}
