package breaker

import (
	"fmt"
	"math"
	"slices"
	"testing"

	"usufruct/api"
)

const (
	lowest  = math.MinInt
	highest = math.MaxInt
	most    = 1000    // the greatest trip, and the most probes
	end     = 1 << 40 // the greatest tick
)

// mixer draws numbers by a rule, the same ones each time.
type mixer uint64

func (m *mixer) below(n int) int {
	*m = *m*6364136223846793005 + 1442695040888963407
	return int(uint64(*m)>>33) % n
}

// far draws a number of any of many sizes: some, hundreds, thousands, up to a tick's.
func (m *mixer) far() int {
	size := 1 << m.below(41)
	return min((m.below(1<<20)<<20+m.below(1<<20))%size+m.below(3), end)
}

// words is a breaker as the chapter's words tell it: its last failures in a row, and its probes in a row, by the ticks of each.
type words struct {
	trip, cool, probes int
	row                []int // failures since the last success, while it is closed
	opened             []int // the ends of all its open times
	shut               bool  // it is open, or half-open
	out                []int
}

// nearest is the tick nearest to n.
func nearest(n int) int {
	switch {
	case n < 0:
		return 0
	case n > end:
		return end
	}
	return n
}

func (w *words) until() int {
	if len(w.opened) == 0 {
		return 0
	}
	return w.opened[len(w.opened)-1]
}

func (w *words) state(now int) int {
	if !w.shut {
		return api.Closed
	}
	if nearest(now) < w.until() {
		return api.Open
	}
	return api.Half
}

func (w *words) may(now int) bool {
	s := w.state(now)
	return s == api.Closed || s == api.Half && len(w.out) < w.probes
}

func (w *words) send(now int) bool {
	ok := w.may(now)
	if ok && w.state(now) == api.Half {
		w.out = append(w.out, nearest(now))
	}
	return ok
}

func (w *words) openAt(now int) {
	w.opened = append(w.opened, nearest(nearest(now)+w.cool))
	w.shut, w.row, w.out = true, nil, nil
}

func (w *words) done(now int, success bool) {
	s := w.state(now)
	if s == api.Open {
		return
	}
	if success {
		w.shut, w.row, w.out = false, nil, nil
		return
	}
	w.row = append(w.row, nearest(now))
	if s == api.Half || len(w.row) == w.trip {
		w.openAt(now)
	}
}

func (w *words) lost(now int) {
	if w.state(now) == api.Half && len(w.out) > 0 {
		w.out = w.out[1:]
	}
}

// pair is a breaker and its words, to which the same is done.
type pair struct {
	t *testing.T
	b *Breaker
	w *words
}

func newPair(t *testing.T, trip, cool, probes int) pair {
	t.Helper()
	b := New(trip, cool, probes)
	if b == nil {
		t.Fatalf("New(%d, %d, %d) = nil", trip, cool, probes)
	}
	return pair{t, b, &words{trip: trip, cool: cool, probes: probes}}
}

func (p pair) send(now int) {
	p.t.Helper()
	ok := p.b.Send(now)
	if want := p.w.send(now); ok != want {
		p.t.Fatalf("%v: Send(%d) = %v, not %v", *p.w, now, ok, want)
	}
}

func (p pair) done(now int, success bool) {
	p.b.Done(now, success)
	p.w.done(now, success)
}

func (p pair) lost(now int) {
	p.b.Lost(now)
	p.w.lost(now)
}

// fail has so many failures at a tick.
func (p pair) fail(now, count int) {
	for range count {
		p.done(now, false)
	}
}

// edgeTicks are ticks at and beside both edges of all ticks and of the open time.
func (p pair) edgeTicks() []int {
	u := p.w.until()
	return []int{0, 1, u - 1, u, u + 1, u - p.w.cool, u + p.w.cool, end - 1, end, -1, end + 1, lowest, highest}
}

// same asks the breaker all that it can tell and leaves it as it was, twice.
func (p pair) same() {
	p.t.Helper()
	for range 2 {
		if u := p.b.Until(); u != p.w.until() {
			p.t.Fatalf("%v: Until() = %d, not %d", *p.w, u, p.w.until())
		}
		if n := p.b.Out(); n != len(p.w.out) {
			p.t.Fatalf("%v: Out() = %d, not %d", *p.w, n, len(p.w.out))
		}
		for _, now := range p.edgeTicks() {
			if s := p.b.State(now); s != p.w.state(now) {
				p.t.Fatalf("%v: State(%d) = %d, not %d", *p.w, now, s, p.w.state(now))
			}
			if ok := p.b.May(now); ok != p.w.may(now) {
				p.t.Fatalf("%v: May(%d) = %v, not %v", *p.w, now, ok, p.w.may(now))
			}
		}
	}
}

// drain has as many failures and probes as there may be at a tick, so that each number which is kept is to be seen.
func (p pair) drain(now int) {
	p.t.Helper()
	for p.w.state(now) == api.Closed {
		p.fail(now, 1)
		p.same()
	}
	at := max(nearest(now), p.w.until())
	for p.w.state(at) == api.Half && p.w.may(at) {
		p.send(at)
	}
	p.send(at)
	p.same()
	p.fail(at, 1)
	p.same()
}

// want holds all four answers of a breaker at a tick.
func want(t *testing.T, b *Breaker, now, state int, may bool, until, out int) {
	t.Helper()
	if s, ok := b.State(now), b.May(now); s != state || ok != may {
		t.Errorf("at %d: state %d, may %v; not %d, %v", now, s, ok, state, may)
	}
	if u, n := b.Until(), b.Out(); u != until || n != out {
		t.Errorf("at %d: until %d, out %d; not %d, %d", now, u, n, until, out)
	}
}

// cools are open times of each size.
var cools = []int{0, 1, 2, 10, 1 << 20, end - 1, end}

// P10.1: New at numbers at both edges, and far outside.
func TestNew(t *testing.T) {
	counts := []struct {
		n    int
		good bool
	}{
		{lowest, false}, {lowest + 1, false}, {-most, false}, {-2, false}, {-1, false}, {0, false},
		{1, true}, {2, true}, {500, true}, {most - 1, true}, {most, true},
		{most + 1, false}, {most + 2, false}, {1<<32 + 1, false}, {end, false}, {highest - 1, false}, {highest, false},
	}
	for _, trip := range counts {
		for _, probes := range counts {
			for _, cool := range []struct {
				n    int
				good bool
			}{
				{lowest, false}, {lowest + 1, false}, {-end, false}, {-2, false}, {-1, false},
				{0, true}, {1, true}, {1 << 32, true}, {end - 1, true}, {end, true},
				{end + 1, false}, {end + 2, false}, {1 << 41, false}, {1 << 62, false}, {highest, false},
			} {
				b := New(trip.n, cool.n, probes.n)
				if good := trip.good && cool.good && probes.good; (b != nil) != good {
					t.Fatalf("New(%d, %d, %d): nil is %v", trip.n, cool.n, probes.n, b == nil)
				}
			}
		}
	}
}

// P10.1: one that is new is closed at each tick, never was open, and has no probe out.
func TestIsNew(t *testing.T) {
	for _, trip := range []int{1, 2, most} {
		for _, cool := range cools {
			for _, probes := range []int{1, 2, most} {
				p := newPair(t, trip, cool, probes)
				for _, now := range []int{0, 1, cool, end - 1, end, -1, end + 1, lowest, highest} {
					want(t, p.b, now, api.Closed, true, 0, 0)
				}
				p.same()
			}
		}
	}
}

// P10.1: the states have api's numbers.
func TestStates(t *testing.T) {
	if closed != api.Closed || open != api.Open || half != api.Half {
		t.Errorf("%d, %d, %d", closed, open, half)
	}
}

// threeStates are breakers of several open times, of which some are closed, some open and some half-open at 0, and some closed and some half-open at MaxTick; none is open there.
func threeStates(t *testing.T) []pair {
	t.Helper()
	var l []pair
	for _, cool := range []int{0, 1, end - 1, end} {
		shut := newPair(t, 2, cool, 3)
		shut.fail(0, 1)
		early := newPair(t, 1, cool, 3)
		early.fail(0, 1)
		late := newPair(t, 1, cool, 3)
		late.fail(end, 1)
		early.send(end)
		late.send(end)
		l = append(l, shut, early, late)
	}
	return l
}

// P10.1: each call takes its now as the nearest tick.
func TestNowIsTaken(t *testing.T) {
	for _, now := range []int{lowest, lowest + 1, -end, -2, -1, end + 1, end + 2, 1 << 41, 1 << 62, highest - 1, highest} {
		calls := []func(b *Breaker, at int){
			func(b *Breaker, at int) { b.Send(at) },
			func(b *Breaker, at int) { b.Done(at, true) },
			func(b *Breaker, at int) { b.Done(at, false) },
			func(b *Breaker, at int) { b.Lost(at) },
			func(b *Breaker, at int) { b.State(at) },
			func(b *Breaker, at int) { b.May(at) },
		}
		for i, call := range calls {
			outside, inside := threeStates(t), threeStates(t)
			for k := range outside {
				a, b := outside[k].b, inside[k].b
				if a.State(now) != b.State(nearest(now)) || a.May(now) != b.May(nearest(now)) {
					t.Fatalf("breaker %d at %d isn't as at %d", k, now, nearest(now))
				}
				call(a, now)
				call(b, nearest(now))
				if *a != *b {
					t.Fatalf("breaker %d, call %d: %v at %d, %v at %d", k, i, *a, now, *b, nearest(now))
				}
				if a.Send(now) != b.Send(nearest(now)) || *a != *b {
					t.Fatalf("breaker %d, call %d, Send: %v at %d, %v at %d", k, i, *a, now, *b, nearest(now))
				}
			}
		}
	}
}

// P10.2: State and May at ticks around the open time, which begins at a failure and ends so many ticks behind it.
func TestOpenTime(t *testing.T) {
	for _, cool := range cools {
		for _, at := range []int{0, 1, 5, 1 << 20, end - 11, end - 10, end - 9, end - 1, end, -3, end + 7, lowest, highest} {
			b := New(1, cool, 2)
			b.Done(at, false)
			until := min(nearest(at)+cool, end)
			for _, now := range []int{lowest, -1, 0, 1, nearest(at) - 1, nearest(at), nearest(at) + 1, until - 2, until - 1, until, until + 1, until + 2, end - 1, end, end + 1, highest} {
				if nearest(now) < until {
					want(t, b, now, api.Open, false, until, 0)
				} else {
					want(t, b, now, api.Half, true, until, 0)
				}
			}
		}
	}
}

// P10.2: an open time of no ticks is over at the failure; one that would end behind MaxTick ends there.
func TestOpenTimeEdges(t *testing.T) {
	for _, c := range []struct{ cool, at, now, state, until int }{
		{0, 0, 0, api.Half, 0}, {0, 7, 6, api.Open, 7}, {0, 7, 7, api.Half, 7}, {0, end, end - 1, api.Open, end}, {0, end, end, api.Half, end},
		{1, 0, 0, api.Open, 1}, {1, 0, 1, api.Half, 1}, {1, end - 1, end - 1, api.Open, end}, {1, end - 1, end, api.Half, end}, {1, end, end, api.Half, end},
		{10, 5, 14, api.Open, 15}, {10, 5, 15, api.Half, 15}, {10, 5, 16, api.Half, 15},
		{10, end - 11, end - 2, api.Open, end - 1}, {10, end - 11, end - 1, api.Half, end - 1}, {10, end - 10, end - 1, api.Open, end}, {10, end - 9, end - 1, api.Open, end}, {10, end - 9, end, api.Half, end},
		{end, 0, end - 1, api.Open, end}, {end, 0, end, api.Half, end}, {end, end, end - 1, api.Open, end}, {end, end, end, api.Half, end},
	} {
		b := New(1, c.cool, 1)
		b.Done(c.at, false)
		want(t, b, c.now, c.state, c.state == api.Half, c.until, 0)
	}
}

// P10.2: closed, as many failures one behind the other as trip it open it, and no fewer.
func TestTrip(t *testing.T) {
	for _, trip := range []int{1, 2, 3, 10, most - 1, most} {
		b := New(trip, 10, 1)
		for i := range trip - 1 {
			b.Done(i, false)
			want(t, b, i, api.Closed, true, 0, 0)
		}
		b.Done(trip+5, false)
		want(t, b, trip+5, api.Open, false, trip+15, 0)
		want(t, b, trip+15, api.Half, true, trip+15, 0)
	}
}

// P10.2: closed, a success between failures makes their count 0, wherever it stands.
func TestSuccessBetween(t *testing.T) {
	for _, trip := range []int{1, 2, 3, 10, most} {
		for _, ahead := range []int{0, 1, 2, trip / 2, trip - 2, trip - 1} {
			if ahead < 0 || ahead >= trip {
				continue
			}
			p := newPair(t, trip, 10, 1)
			for round := range 3 {
				p.fail(round, ahead)
				p.done(round, true)
				want(t, p.b, round, api.Closed, true, 0, 0)
			}
			p.fail(9, trip-1)
			want(t, p.b, 9, api.Closed, true, 0, 0)
			p.fail(9, 1)
			want(t, p.b, 9, api.Open, false, 19, 0)
			p.same()
		}
	}
}

// P10.2: closed, anything goes, no probe is out, and neither Send nor Lost changes the count of failures.
func TestClosed(t *testing.T) {
	p := newPair(t, 3, 10, 2)
	for now := range 4 {
		for range 5 {
			p.send(now)
			p.lost(now)
			want(t, p.b, now, api.Closed, true, 0, 0)
		}
		if now == 1 || now == 2 {
			p.fail(now, 1)
		}
		p.same()
	}
	p.lost(4)
	p.fail(4, 1)
	want(t, p.b, 4, api.Open, false, 14, 0)
}

// P10.2: ticks of failures needn't rise: the last one's tells the open time.
func TestFallingTicks(t *testing.T) {
	b := New(3, 10, 1)
	b.Done(50, false)
	b.Done(90, false)
	b.Done(20, false)
	want(t, b, 29, api.Open, false, 30, 0)
	want(t, b, 30, api.Half, true, 30, 0)
	b.Send(40)
	want(t, b, 29, api.Open, false, 30, 1)
	b.Lost(29)
	b.Done(29, true)
	b.Done(29, false)
	want(t, b, 29, api.Open, false, 30, 1)
	want(t, b, 30, api.Half, false, 30, 1)
}

// P10.2 and R5: open, nothing goes and nothing changes.
func TestOpenChangesNothing(t *testing.T) {
	for _, cool := range cools[1:] {
		for _, at := range []int{0, 1, 5, end - 10, end - 1} {
			until := min(at+cool, end)
			for _, now := range []int{at, at + 1, until - 1, 0, -1, lowest} {
				if nearest(now) >= until {
					continue
				}
				p := newPair(t, 2, cool, 2)
				p.fail(at, 2)
				before := *p.b
				for range 3 {
					p.send(now)
					p.done(now, true)
					p.done(now, false)
					p.lost(now)
				}
				if *p.b != before {
					t.Fatalf("at %d, open until %d: %v, not %v", now, until, *p.b, before)
				}
				p.same()
				p.drain(until)
			}
		}
	}
}

// P10.2 and P10.4: half-open, as many probes go as there may be out, and no more; so again behind one that is lost.
func TestProbes(t *testing.T) {
	for _, probes := range []int{1, 2, 3, most - 1, most} {
		for _, until := range []int{0, 15, end} {
			b := New(1, 0, probes)
			b.Done(until, false)
			for i := range probes {
				want(t, b, until+i%3, api.Half, true, until, i)
				if !b.Send(until + i%3) {
					t.Fatalf("probe %d of %d doesn't go", i+1, probes)
				}
			}
			for i := range 3 {
				want(t, b, until+i, api.Half, false, until, probes)
				if b.Send(until + i) {
					t.Fatalf("probe %d of %d goes", probes+1, probes)
				}
			}
			b.Lost(until)
			want(t, b, until, api.Half, true, until, probes-1)
			if !b.Send(until) || b.Send(until) {
				t.Errorf("%d probes, behind one that was lost", probes)
			}
			want(t, b, until, api.Half, false, until, probes)
		}
	}
}

// halfOpen is one that is half-open from 15 on, with so many probes out.
func halfOpen(t *testing.T, trip, probes, out int) pair {
	t.Helper()
	p := newPair(t, trip, 10, probes)
	p.fail(5, trip)
	for range out {
		p.send(15)
	}
	want(t, p.b, 15, api.Half, out < probes, 15, out)
	return p
}

// P10.2: half-open, a success closes it, however many probes are out: the count is 0, and none is out.
func TestHalfGood(t *testing.T) {
	for _, trip := range []int{1, 2, 5, most} {
		for out := range 4 {
			for _, now := range []int{15, 16, 1000, end, highest} {
				p := halfOpen(t, trip, 3, out)
				p.done(now, true)
				for _, at := range []int{0, 14, 15, now, end} {
					want(t, p.b, at, api.Closed, true, 15, 0)
				}
				p.fail(now, trip-1)
				want(t, p.b, now, api.Closed, true, 15, 0)
				p.fail(now, 1)
				want(t, p.b, end, api.Half, true, nearest(nearest(now)+10), 0)
				p.same()
			}
		}
	}
}

// P10.2: half-open, one failure opens it from then on, however many trip it and however many probes are out: none is out then.
func TestHalfBad(t *testing.T) {
	for _, trip := range []int{1, 2, 5, most} {
		for out := range 4 {
			for _, now := range []int{15, 16, 1000, end - 11} {
				p := halfOpen(t, trip, 3, out)
				p.done(now, false)
				want(t, p.b, now, api.Open, false, now+10, 0)
				want(t, p.b, now+9, api.Open, false, now+10, 0)
				p.send(now + 9)
				want(t, p.b, now+10, api.Half, true, now+10, 0)
				p.drain(now + 10)
			}
		}
	}
}

// P10.2: half-open, Lost takes one probe off, down to none.
func TestLost(t *testing.T) {
	for out := range 4 {
		p := halfOpen(t, 2, 3, out)
		for left := out; left >= -2; left-- {
			want(t, p.b, 20, api.Half, left < 3, 15, max(left, 0))
			p.lost(20)
			p.same()
		}
		for i := range 3 {
			p.send(20)
			want(t, p.b, 20, api.Half, i < 2, 15, i+1)
		}
		p.send(20)
		p.same()
	}
}

// P10.2: with no open time, a failure that opens it leaves it half-open, and so does each further one.
func TestNoOpenTime(t *testing.T) {
	b := New(2, 0, 1)
	b.Done(3, false)
	b.Done(3, false)
	for now := 3; now < 6; now++ {
		want(t, b, now, api.Half, true, 3, 0)
	}
	for now := 6; now < 9; now++ {
		if !b.Send(now) || b.Send(now) {
			t.Errorf("probe at %d", now)
		}
		b.Done(now, false)
		want(t, b, now, api.Half, true, now, 0)
		want(t, b, now-1, api.Open, false, now, 0)
	}
	b.Done(9, true)
	want(t, b, 9, api.Closed, true, 8, 0)
}

// P10.3: Until of one that never was open, is, is half-open, is closed again, and was opened again.
func TestUntil(t *testing.T) {
	b := New(2, 10, 1)
	until := func(what string, want int) {
		t.Helper()
		if u := b.Until(); u != want {
			t.Errorf("%s: %d, not %d", what, u, want)
		}
	}
	until("new", 0)
	b.Done(1, false)
	until("a failure", 0)
	b.Done(2, true)
	b.Send(3)
	b.Lost(3)
	b.Done(3, false)
	until("never open", 0)
	b.Done(5, false)
	until("open", 15)
	b.Done(14, false)
	b.Done(14, true)
	until("open, and done", 15)
	b.Send(15)
	until("half-open", 15)
	b.Lost(17)
	until("lost", 15)
	b.Done(20, true)
	until("closed again", 15)
	b.Done(30, false)
	until("closed again, and a failure", 15)
	b.Done(40, false)
	until("opened again", 50)
	b.Done(60, false)
	until("opened again by a probe", 70)
	b.Done(70, true)
	until("closed once more", 70)
}

// P10.3: Out in each state, and behind each call.
func TestOut(t *testing.T) {
	b := New(1, 10, 3)
	out := func(what string, want int) {
		t.Helper()
		if n := b.Out(); n != want {
			t.Errorf("%s: %d, not %d", what, n, want)
		}
	}
	out("new", 0)
	b.Send(1)
	out("closed, sent", 0)
	b.Done(2, true)
	b.Lost(3)
	out("closed, done and lost", 0)
	b.Send(4)
	b.Done(5, false)
	out("open", 0)
	b.Send(14)
	b.Lost(14)
	b.Done(14, true)
	out("open, sent, lost and done", 0)
	for i, want := range []int{1, 2, 3, 3} {
		b.Send(15 + i)
		out("half-open, sent", want)
	}
	b.Lost(19)
	out("half-open, lost", 2)
	b.Done(20, false)
	out("open again", 0)
	b.Send(30)
	b.Send(30)
	out("half-open again", 2)
	b.Done(31, true)
	out("closed again", 0)
}

// P10.1 to P10.4: breakers have nothing in common.
func TestApart(t *testing.T) {
	a, b := newPair(t, 1, 10, 2), newPair(t, 2, 30, 1)
	for now := range 200 {
		a.done(now, now%17 == 0)
		b.send(now)
		b.done(now, now%5 == 0)
		a.send(now)
		a.same()
		b.same()
	}
}

// fewCalls are calls at ticks that lie near and far.
func fewCalls(at, cool int) []func(p pair) {
	var l []func(p pair)
	for _, now := range []int{at, nearest(at + cool - 1), nearest(at + cool)} {
		l = append(l,
			func(p pair) { p.send(now) },
			func(p pair) { p.done(now, true) },
			func(p pair) { p.done(now, false) },
			func(p pair) { p.lost(now) })
	}
	return l
}

// wantRows holds all rows of so many calls out of few.
func wantRows(t *testing.T, trip, cool, probes, at, length int) {
	t.Helper()
	few := fewCalls(at, cool)
	rows := 1
	for range length {
		rows *= len(few)
	}
	for row := range rows {
		p := newPair(t, trip, cool, probes)
		for range length {
			few[row%len(few)](p)
			row /= len(few)
		}
		p.same()
		p.drain(at + cool)
	}
}

// P10.1 to P10.4: all short rows of calls out of few, in any order of their ticks.
func TestShortRows(t *testing.T) {
	for _, cool := range []int{0, 1, 10, end} {
		for _, at := range []int{0, 5, end - 10, end} {
			wantRows(t, 1, cool, 1, at, 3)
			wantRows(t, 2, cool, 2, at, 3)
		}
	}
	wantRows(t, 1, 10, 2, 5, 4)
	wantRows(t, 2, 10, 1, 5, 4)
}

// ticking is a breaker that is led on tick by tick: how many ticks it is still open are counted down, and there are none behind MaxTick.
type ticking struct {
	trip, cool, probes    int
	now                   int
	state, failures, left int
	out                   int
}

func (k *ticking) goOn() {
	k.now++
	k.left--
	k.settle()
}

func (k *ticking) settle() {
	if k.state == api.Open && (k.left == 0 || k.now == end) {
		k.state = api.Half
	}
}

func (k *ticking) send() bool {
	switch {
	case k.state == api.Open, k.state == api.Half && k.out == k.probes:
		return false
	case k.state == api.Half:
		k.out++
	}
	return true
}

func (k *ticking) done(success bool) {
	if k.state == api.Open {
		return
	}
	if success {
		k.state, k.failures, k.out = api.Closed, 0, 0
		return
	}
	k.failures++
	if k.state == api.Half || k.failures == k.trip {
		k.state, k.left, k.out = api.Open, k.cool, 0
		k.settle()
	}
}

func (k *ticking) lost() {
	k.out = max(k.out-1, 0) // none is out of one that isn't half-open
}

// P10.2 and P10.4: rows of calls at rising ticks against a breaker that is led on tick by tick; open, nothing goes, half-open never more are out than may be.
func TestRising(t *testing.T) {
	m := mixer(3)
	seen := [3]int{}
	for round := range 400 {
		k := ticking{trip: 1 + m.below(4), cool: m.below(9), probes: 1 + m.below(4)}
		b := New(k.trip, k.cool, k.probes)
		k.now = []int{0, 100, end - 100}[round%3]
		for range 101 {
			now := k.now
			for range m.below(4) {
				state := b.State(now)
				seen[state]++
				switch m.below(7) {
				case 0:
					b.Done(now, true)
					k.done(true)
				case 1, 2:
					b.Done(now, false)
					k.done(false)
				case 3:
					b.Lost(now)
					k.lost()
				default:
					may, ok := b.May(now), b.Send(now)
					if want := k.send(); may != want || ok != want || state == api.Open && ok {
						t.Fatalf("%v at %d: may %v, sent %v, not %v", k, now, may, ok, want)
					}
				}
				if b.State(now) != k.state || b.Out() != k.out || b.Out() > k.probes || k.state != api.Half && b.Out() != 0 {
					t.Fatalf("%v at %d: state %d, out %d", k, now, b.State(now), b.Out())
				}
				if k.state == api.Open && b.Until() != min(now+k.left, end) {
					t.Fatalf("%v at %d: until %d", k, now, b.Until())
				}
			}
			k.goOn()
		}
	}
	if slices.Min(seen[:]) < 1000 {
		t.Errorf("%v calls in the states", seen)
	}
}

// deed is a drawn call at a tick.
func (p pair) deed(m *mixer, now int) {
	p.t.Helper()
	switch m.below(8) {
	case 0:
		p.done(now, true)
	case 1:
		p.lost(now)
	case 2, 3, 4:
		p.send(now)
	default:
		p.done(now, false)
	}
}

// P10.1 to P10.4, P1 and R8: drawn calls, at ticks that rise and at any, against the words.
func TestDrawn(t *testing.T) {
	m := mixer(7)
	for round := range 600 {
		p := newPair(t, 1+m.below(1+m.below(30)), m.far(), 1+m.below(1+m.below(30)))
		now := []int{0, m.far(), end - min(m.far(), end)}[round%3]
		for range 150 {
			switch m.below(6) {
			case 0:
				now = nearest(now + m.far())
			case 1:
				now = nearest(p.w.until() + m.below(3) - 1)
			case 2:
				now = nearest(now + m.below(3))
			case 3:
				if round%2 == 0 {
					now = m.far()
				}
			}
			p.deed(&m, now)
			p.same()
		}
		p.drain(now)
	}
}

// P1: whatever is asked, each call answers: edges of all numbers, in each pairing.
func TestAnyArguments(t *testing.T) {
	edges := []int{lowest, lowest + 1, -end, -1, 0, 1, 2, 999, most, most + 1, 1 << 32, end - 1, end, end + 1, highest - 1, highest}
	for _, trip := range edges {
		for _, cool := range edges {
			for _, probes := range edges {
				b := New(trip, cool, probes)
				if b == nil {
					continue
				}
				p := pair{t, b, &words{trip: trip, cool: cool, probes: probes}}
				for i, now := range edges {
					p.send(now)
					p.fail(edges[(i*7+3)%len(edges)], 1+trip%2)
					p.send(edges[(i*5+1)%len(edges)])
					p.lost(edges[(i*11+2)%len(edges)])
					p.done(edges[(i*3+2)%len(edges)], i%4 == 0)
					p.same()
				}
			}
		}
	}
}

func ExampleBreaker() {
	b := New(1, 10, 1)
	b.Done(5, false)
	fmt.Println(b.Until(), b.State(14) == api.Open, b.Send(14))
	fmt.Println(b.State(15) == api.Half, b.Send(15), b.Out(), b.Send(16))
	b.Done(20, true)
	fmt.Println(b.State(20) == api.Closed, b.Send(20), b.Out(), b.Until())
	// Output:
	// 15 true false
	// true true 1 false
	// true true 0 15
}
