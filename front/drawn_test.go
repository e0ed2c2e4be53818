package front

import (
	"fmt"
	"slices"
	"strconv"
	"testing"

	"usufruct/api"
	"usufruct/saga"
	"usufruct/state"
)

// mixer draws numbers by a rule, the same ones each time.
type mixer uint64

func (m *mixer) below(n int) int {
	*m = *m*6364136223846793005 + 1442695040888963407
	return int(uint64(*m)>>33) % n
}

// pick draws one of a list.
func pick[T any](m *mixer, l ...T) T {
	return l[m.below(len(l))]
}

// row is a drawn row's: a front, one on paper to which the same is done, and what the promises hold of the front by what was seen of it alone.
type row struct {
	*mixer
	t       *testing.T
	c       api.Config
	f       *Front
	p       *paper
	what    string
	acked   api.State     // behind the last acknowledged call, or the last restart
	known   int           // how many of Past's events lead there
	past    []api.Event   // Past, as it was seen last
	behind  api.State     // what it comes to
	emitted []api.Command // by each event in it that a call did
	out     []api.Command // that were taken
	counts  map[string]int
}

// newRow draws a config.
func newRow(t *testing.T, m *mixer, counts map[string]int) *row {
	r := &row{mixer: m, t: t, counts: counts}
	r.c = api.Config{Limit: pick(m, 1, 3, 5, 8), Ageing: pick(m, 1, 3, 100), Segment: pick(m, 1, 150, 1000, 1<<20), Volume: pick(m, 1<<20, 1<<20, 1<<20, 1500, 2000, 3000)}
	for _, name := range []string{"hotel", "bank", "taxi"} {
		r.c.Parties = append(r.c.Parties, api.Party{Name: name, Seats: pick(m, 1, 1, 2, 5), Trip: pick(m, 1, 2, 3, 100), Cool: pick(m, 0, 1, 5, 20), Probes: pick(m, 1, 1, 2)})
	}
	r.f, r.p = made(t, r.c), newPaper(r.c)
	return r
}

// def draws a definition, most often one that is right.
func (r *row) def() api.Def {
	plan := func() api.Plan {
		return api.Plan{Retries: pick(r.mixer, 0, 0, 1, 2), Base: 1 + r.below(3), Factor: 1 + r.below(2), Cap: 4}
	}
	d := api.Def{Name: pick(r.mixer, "a", "b", "c", "d"), Deadline: pick(r.mixer, 0, 0, 6, 15, 40)}
	for i := range 1 + r.below(3) {
		party := pick(r.mixer, "hotel", "bank", "taxi")
		if r.below(15) == 0 {
			party = "nobody"
		}
		d.Steps = append(d.Steps, api.Step{Name: "s" + strconv.Itoa(i), Party: party, Timeout: pick(r.mixer, 0, 1, 2, 3, 5, 5, 9), Try: plan(), Undo: plan(), Prio: r.below(3)})
	}
	return d
}

// some draws a saga, most often one of which a test holds.
func (r *row) some(wanted func(s api.Saga) bool) (api.Saga, bool) {
	l := r.behind.Sagas
	if r.below(6) > 0 {
		l = slices.DeleteFunc(slices.Clone(l), func(s api.Saga) bool { return !wanted(s) })
	}
	if len(l) == 0 {
		return api.Saga{}, false
	}
	return pick(r.mixer, l...), true
}

// reply draws a reply, most often one to a try that was emitted.
func (r *row) reply() api.Reply {
	a := api.Reply{Saga: r.below(6) - 1, Step: r.below(4) - 1, Undo: r.below(2) == 0, Try: r.below(4) - 1}
	if n := len(r.out); n > 0 && r.below(3) == 0 {
		c := r.out[n-1-r.below(min(n, 8))]
		a = api.Reply{Saga: c.Saga, Step: c.Step, Undo: c.Undo, Try: c.Try}
	} else if s, ok := r.some(func(s api.Saga) bool { return s.Tries > 0 && s.Phase < api.Parked }); ok && r.below(6) > 0 {
		a = api.Reply{Saga: s.ID, Step: s.Step, Undo: s.Phase != api.Running, Try: max(s.Tries-r.below(6)/5, 0)}
	}
	a.Good = r.below(3) > 0 != (a.Undo && r.below(2) == 0)
	return a
}

// request draws a call of a client or an operator.
func (r *row) request() order {
	asks := []func(id int) order{cancelling, retrying, skipping, abandoning, forgetting}
	if s, ok := r.some(func(s api.Saga) bool { return s.Phase == api.Parked }); ok && r.below(3) > 0 {
		return asks[1+r.below(3)](s.ID)
	}
	if s, ok := r.some(func(s api.Saga) bool { return s.Phase >= api.Parked }); ok && r.below(8) > 0 {
		if s.Phase == api.Parked {
			return asks[1+r.below(3)](s.ID)
		}
		return asks[pick(r.mixer, 4, 4, 4, 0, 2)](s.ID)
	}
	if s, ok := r.some(func(s api.Saga) bool { return s.Phase == api.Running }); ok && r.below(3) == 0 {
		return cancelling(s.ID)
	}
	return pick(r.mixer, asks...)(r.below(8) - 1)
}

// order draws a call.
func (r *row) order() order {
	switch n := r.below(100); {
	case n < 5:
		return registering(r.def())
	case n < 28:
		name := pick(r.mixer, "a", "b", "c", "d", "nobody", "2")
		if l := r.behind.Defs; len(l) > 0 && r.below(6) > 0 {
			name = pick(r.mixer, l...).Name
		}
		return starting(name)
	case n < 63:
		return delivering(r.reply())
	case n < 78:
		return r.request()
	case n < 96:
		return ticking(pick(r.mixer, 1, 1, 1, 2, 3, 5, 20, 0, -3))
	}
	return keeping()
}

// keep draws how much a boot keeps.
func (r *row) keep() []int {
	var keep []int
	for range r.below(8) {
		keep = append(keep, pick(r.mixer, 0, 10, 40, 90, 1<<20, -1))
	}
	if r.below(3) == 0 {
		keep = slices.Repeat([]int{pick(r.mixer, 40, 90, 1<<20)}, 300)
	}
	return keep
}

// act does one drawn thing, and holds what it answers.
func (r *row) act() {
	switch n := r.below(100); {
	case r.f.Down() && n < 20:
		r.fuse(1 + r.below(3))
		r.restart()
	case r.f.Down() && n < 70:
		r.restart()
	case n < 7:
		r.fuse(r.below(8))
	case n < 9:
		r.what += "; Crash"
		r.f.Crash()
		r.p.Crash()
	case n < 10:
		r.restart()
	case n < 25:
		l := r.f.Take()
		if !slices.Equal(l, r.p.Take()) {
			r.t.Fatalf("%s: %s is taken", r.what, commands(l))
		}
		r.out = append(r.out, l...)
	default:
		r.call(r.order())
	}
	r.what = r.what[max(0, len(r.what)-1500):]
	r.p.holds(r.t, r.what, r.f)
	r.judge()
}

// fuse sets the fuse.
func (r *row) fuse(n int) {
	r.what += fmt.Sprint("; Fuse ", n)
	r.f.Fuse(n)
	r.p.Fuse(n)
}

// call makes a call, and sees what it leaves by the promises.
func (r *row) call(o order) {
	r.what += "; " + o.what
	gone, tail := r.f.Down(), tellEvents(r.f.Tail())
	n, e := o.do(r.f)
	if m, g := o.do(r.p); n != m || e != g {
		r.t.Fatalf("%s: %d and error %d, not %d and %d", r.what, n, e, m, g)
	}
	r.what += fmt.Sprint(" ", n, " ", e)
	r.counts[fmt.Sprint("error ", e)]++
	past := r.f.Past()
	if tellEvents(past[:len(r.past)]) != tellEvents(r.past) {
		r.t.Fatalf("%s: what was sure is no more", r.what)
	}
	switch {
	case e == api.ErrDown:
		if len(past) != len(r.past) || gone && tellEvents(r.f.Tail()) != tail || !r.f.Down() || n != o.none {
			r.t.Fatalf("%s: the power is gone", r.what)
		}
		return
	case r.f.Down():
		r.t.Fatalf("%s: the power is gone", r.what)
	}
	for _, v := range past[len(r.past):] {
		r.do(v)
	}
	if e == api.OK {
		r.acked, r.known = r.behind, len(r.past)
	}
}

// do does an event that is sure.
func (r *row) do(v api.Event) {
	x, c, e := state.Do(r.behind, v, r.c.Limit)
	if e != api.OK {
		r.t.Fatalf("%s: %s can't be done: %d", r.what, word(v), e)
	}
	r.behind, r.past = x, append(r.past, v)
	if v.Kind == api.EvEmit {
		r.emitted = append(r.emitted, c)
	}
}

// restart restarts, and sees what was found by the promises: the state is that behind all calls that were acknowledged, and the first ones of Tail's events.
func (r *row) restart() {
	keep := r.keep()
	r.what += fmt.Sprint("; Restart ", keep[:min(len(keep), 8)])
	gone, tail := r.f.Down(), r.f.Tail()
	e := r.f.Restart(keep)
	if g := r.p.Restart(keep); e != g {
		r.t.Fatalf("%s: error %d, not %d", r.what, e, g)
	}
	r.counts[fmt.Sprint("restart ", e)]++
	if e != api.OK {
		if gone != (e == api.ErrDown) || r.f.Down() != gone || tellEvents(r.f.Tail()) != tellEvents(tail) {
			r.t.Fatalf("%s: error %d", r.what, e)
		}
		return
	}
	past := r.f.Past()
	found := past[r.known:]
	if len(found) > len(tail) || tellEvents(found) != tellEvents(tail[:len(found)]) || tellEvents(past[:r.known]) != tellEvents(r.past[:r.known]) || len(past) < len(r.past) {
		r.t.Fatalf("%s: %s was found, and the tail was %s", r.what, words(found), words(tail))
	}
	x := r.acked
	for _, v := range found {
		x, _, _ = state.Do(x, v, r.c.Limit)
	}
	if !state.Same(x, r.f.State()) || len(r.f.Tail()) != 0 {
		r.t.Fatalf("%s: the state is %s, not %s", r.what, tell(r.f.State()), tell(x))
	}
	emitted := r.emitted // what is found comes out no more
	for _, v := range past[len(r.past):] {
		r.do(v)
		r.counts["found"]++
	}
	r.emitted = emitted
	r.counts["lost"] += len(tail) - len(found)
	r.acked, r.known = r.behind, len(r.past)
}

// judge holds what is promised of what is seen.
func (r *row) judge() {
	r.t.Helper()
	if out := append(slices.Clone(r.out), r.f.outbox...); !slices.Equal(out, r.emitted) {
		r.t.Fatalf("%s: out came %s, not %s", r.what, commands(out), commands(r.emitted))
	}
	if tellEvents(r.f.Past()) != tellEvents(r.past) {
		r.t.Fatalf("%s: Past is %s, not %s", r.what, words(r.f.Past()), words(r.past))
	}
	if r.f.Down() {
		return
	}
	x, now := r.f.State(), r.f.Now()
	if !state.Same(x, r.behind) {
		r.t.Fatalf("%s: Past comes to %s, the state is %s", r.what, tell(r.behind), tell(x))
	}
	flying, queued, timers, _ := r.f.Load()
	tries := 0
	for _, party := range r.c.Parties {
		n := state.Flying(x, party.Name)
		tries += n
		if n > party.Seats {
			r.t.Fatalf("%s: %d in flight to %s", r.what, n, party.Name)
		}
	}
	if flying != tries || queued > len(x.Sagas) || timers > len(x.Sagas) || len(x.Sagas) > r.c.Limit {
		r.t.Fatalf("%s: %d %d %d of %d sagas, %d tries", r.what, flying, queued, timers, len(x.Sagas), tries)
	}
	for _, s := range x.Sagas {
		d, _ := state.Def(x, s.Def)
		if saga.May(d, s, now) && queued == 0 {
			r.t.Fatalf("%s: saga %d may emit, and doesn't wait", r.what, s.ID)
		}
	}
}

// kinds counts the events that are sure.
func (r *row) kinds() {
	for _, v := range r.past {
		r.counts[fmt.Sprint("kind ", v.Kind)]++
	}
}

// P20.1 to P20.5: drawn rows of all calls, with the power going at any deed, and restarts that keep anything.
func TestDrawnRows(t *testing.T) {
	counts := map[string]int{}
	for seed := range 250 {
		m := mixer(seed)
		r := newRow(t, &m, counts)
		r.what = "seed " + strconv.Itoa(seed)
		for range 3 {
			r.call(registering(r.def()))
		}
		for range 120 {
			r.act()
		}
		r.kinds()
	}
	for what, least := range map[string]int{"error 0": 1000, "error 12": 1000, "error 13": 300, "error 8": 100, "restart 0": 500, "restart 9": 50, "restart 12": 30, "found": 100, "lost": 100} {
		if counts[what] < least {
			t.Errorf("%s: %d times", what, counts[what])
		}
	}
	for kind := api.EvDefine; kind <= api.EvForget; kind++ {
		if n := counts[fmt.Sprint("kind ", kind)]; n < 20 {
			t.Errorf("kind %d was done %d times", kind, n)
		}
	}
}

// P20.5: each row of calls of one list, with the power going at each deed of each, and restarts that keep each piece of what isn't safe.
func TestEachDeed(t *testing.T) {
	orders := []order{registering(trip()), starting("trip"), yes(0, 0, 1), starting("trip"), keeping(), no(0, 1, 1), ticking(5), stuck(0, 0), keeping(), skipping(0), forgetting(0), ticking(9)}
	for _, segment := range []int{1, 100_000} {
		c := with(func(c *api.Config) { c.Segment = segment })
		for _, keep := range []int{0, 20, 37, 60, 100, 1 << 20} {
			for fuse := 1; ; fuse++ {
				f, p := made(t, c), newPaper(c)
				f.Fuse(fuse)
				p.Fuse(fuse)
				what := fmt.Sprintf("segment %d, keep %d, fuse %d", segment, keep, fuse)
				restarted := false
				for _, o := range orders {
					n, e := o.do(f)
					if m, g := o.do(p); n != m || e != g {
						t.Fatalf("%s, %s: %d and error %d, not %d and %d", what, o.what, n, e, m, g)
					}
					if !f.Down() {
						continue
					}
					restarted = true
					l := slices.Repeat([]int{keep}, 20)
					if e, g := f.Restart(l), p.Restart(l); e != api.OK || e != g {
						t.Fatalf("%s, Restart: %d and %d", what, e, g)
					}
					p.holds(t, what+", "+o.what, f)
					o.do(f)
					o.do(p)
				}
				p.holds(t, what, f)
				if !restarted {
					break
				}
			}
		}
	}
}
