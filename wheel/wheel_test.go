package wheel

import (
	"cmp"
	"fmt"
	"math"
	"slices"
	"testing"

	"usufruct/api"
)

const (
	lowest  = math.MinInt
	highest = math.MaxInt
	most    = 65536   // the greatest capacity
	end     = 1 << 40 // the greatest tick
)

// mixer draws numbers by a rule, the same ones each time.
type mixer uint64

func (m *mixer) below(n int) int {
	*m = *m*6364136223846793005 + 1442695040888963407
	return int(uint64(*m)>>33) % n
}

// far draws a number of any of many sizes: some, hundreds, thousands, up to a tick's.
func (m *mixer) far() int {
	size := 1 << m.below(41)
	return min((m.below(1<<20)<<20+m.below(1<<20))%size+m.below(3), end)
}

// words is a wheel as the chapter's words tell it: its timers in a row, as they were set.
type words struct {
	capacity, now int
	count         int // how many were set
	row           []api.Timer
}

func isTick(n int) bool {
	return n >= 0 && n <= end
}

func (w *words) set(id, at int) (int, api.Errno) {
	if !isTick(at) {
		return 0, api.ErrArg
	}
	if len(w.row) == w.capacity {
		return 0, api.ErrFull
	}
	w.count++
	if at <= w.now {
		at = min(w.now+1, end)
	}
	w.row = append(w.row, api.Timer{Handle: w.count, ID: id, At: at})
	return w.count, api.OK
}

func (w *words) placeOf(handle int) int {
	return slices.IndexFunc(w.row, func(x api.Timer) bool { return x.Handle == handle })
}

func (w *words) cancel(handle int) bool {
	i := w.placeOf(handle)
	if i < 0 {
		return false
	}
	w.row = slices.Delete(w.row, i, i+1)
	return true
}

func (w *words) goOn(to int) []api.Timer {
	if !isTick(to) || to <= w.now {
		return nil
	}
	var gone, left []api.Timer
	for _, x := range w.row {
		if x.At <= to {
			gone = append(gone, x)
		} else {
			left = append(left, x)
		}
	}
	w.now, w.row = to, left
	slices.SortFunc(gone, func(a, b api.Timer) int {
		return cmp.Or(cmp.Compare(a.At, b.At), cmp.Compare(a.Handle, b.Handle))
	})
	return gone
}

func (w *words) next() (int, bool) {
	if len(w.row) == 0 {
		return 0, false
	}
	least := end
	for _, x := range w.row {
		least = min(least, x.At)
	}
	return least, true
}

// pair is a wheel and its words, to which the same is done.
type pair struct {
	t *testing.T
	q *Wheel
	w *words
}

func newPair(t *testing.T, now, capacity int) pair {
	t.Helper()
	q := New(now, capacity)
	if q == nil {
		t.Fatalf("New(%d, %d) = nil", now, capacity)
	}
	return pair{t, q, &words{capacity: capacity, now: now}}
}

func (p pair) set(id, at int) {
	p.t.Helper()
	h, e := p.q.Set(id, at)
	if wantH, wantE := p.w.set(id, at); h != wantH || e != wantE {
		p.t.Fatalf("at %d: Set(%d, %d) = %d, %d, not %d, %d", p.w.now, id, at, h, e, wantH, wantE)
	}
}

func (p pair) cancel(handle int) {
	p.t.Helper()
	ok := p.q.Cancel(handle)
	if want := p.w.cancel(handle); ok != want {
		p.t.Fatalf("at %d: Cancel(%d) = %v, not %v", p.w.now, handle, ok, want)
	}
}

func (p pair) goOn(to int) {
	p.t.Helper()
	from, l := p.w.now, p.q.Go(to)
	if want := p.w.goOn(to); !slices.Equal(l, want) {
		p.t.Fatalf("at %d: Go(%d) = %v, not %v", from, to, l, want)
	}
	if now := p.q.Now(); now != p.w.now {
		p.t.Fatalf("from %d: Now() = %d behind Go(%d), not %d", from, now, to, p.w.now)
	}
}

// numbers asks for the time, for how many there are, and for the next tick.
func (p pair) numbers() {
	p.t.Helper()
	if n := p.q.Len(); n != len(p.w.row) {
		p.t.Fatalf("at %d: Len() = %d, not %d", p.w.now, n, len(p.w.row))
	}
	if now := p.q.Now(); now != p.w.now {
		p.t.Fatalf("Now() = %d, not %d", now, p.w.now)
	}
	at, ok := p.q.Next()
	if wantAt, want := p.w.next(); at != wantAt || ok != want {
		p.t.Fatalf("at %d: Next() = %d, %v, not %d, %v", p.w.now, at, ok, wantAt, want)
	}
}

// handles are all that were ever told, and some that never were.
func (p pair) handles() []int {
	l := []int{lowest, lowest + 1, -2, -1, 0, p.w.count + 1, p.w.count + 2, most + 1, 1 << 32, 1<<32 + 1, highest - 1, highest}
	for h := 1; h <= p.w.count; h++ {
		l = append(l, h)
	}
	return l
}

// same asks the wheel all that it can tell and leaves it as it was, twice.
func (p pair) same() {
	p.t.Helper()
	for range 2 {
		p.numbers()
		for _, h := range p.handles() {
			want, there := 0, false
			if i := p.w.placeOf(h); i >= 0 {
				want, there = p.w.row[i].At, true
			}
			if at, ok := p.q.Due(h); at != want || ok != there {
				p.t.Fatalf("at %d: Due(%d) = %d, %v, not %d, %v", p.w.now, h, at, ok, want, there)
			}
		}
	}
}

// drain goes on from each tick at which one is due to the next one, and to the end.
func (p pair) drain() {
	p.t.Helper()
	for at, ok := p.w.next(); ok && at > p.w.now; at, ok = p.w.next() {
		p.goOn(at - 1)
		p.numbers()
		p.goOn(at)
		p.same()
	}
	p.goOn(end)
	p.same()
}

// edgeTicks are ticks at which one or the other digit turns over, whatever base the digits have, and their neighbours; rising.
func edgeTicks() []int {
	l := []int{0, 1, 2, 3, 100, 999, 1000, 1 << 39, 3 << 38}
	for _, width := range []int{4, 6, 8, 10, 12, 16, 18, 20, 24, 30, 36, 40} {
		l = append(l, 1<<width-2, 1<<width-1, 1<<width, 1<<width+1, 7<<width-1, 7<<width, end-1<<width-1, end-1<<width, end-1<<width+1)
	}
	l = slices.DeleteFunc(l, func(n int) bool { return !isTick(n) })
	slices.Sort(l)
	return slices.Compact(l)
}

// P9.1: New at times and capacities at both edges, and far outside.
func TestNew(t *testing.T) {
	for _, a := range []struct {
		now  int
		good bool
	}{
		{lowest, false}, {lowest + 1, false}, {-end, false}, {-2, false}, {-1, false},
		{0, true}, {1, true}, {1 << 20, true}, {end - 1, true}, {end, true},
		{end + 1, false}, {1 << 41, false}, {1 << 62, false}, {highest - 1, false}, {highest, false},
	} {
		for _, c := range []struct {
			capacity int
			good     bool
		}{
			{lowest, false}, {lowest + 1, false}, {-most, false}, {-1, false}, {0, false},
			{1, true}, {2, true}, {1000, true}, {most - 1, true}, {most, true},
			{most + 1, false}, {1 << 20, false}, {1<<32 + 1, false}, {end, false}, {highest, false},
		} {
			q := New(a.now, c.capacity)
			if (q != nil) != (a.good && c.good) {
				t.Errorf("New(%d, %d): nil is %v", a.now, c.capacity, q == nil)
			}
			if q != nil {
				newPair(t, a.now, c.capacity).same()
			}
		}
	}
}

// P9.1: where a timer is due: at its tick, or one tick behind the time, if that is later.
func TestSetTick(t *testing.T) {
	for _, c := range []struct{ now, at, due int }{
		{0, 0, 1}, {0, 1, 1}, {0, 2, 2}, {0, 100, 100}, {0, end - 1, end - 1}, {0, end, end},
		{1, 0, 2}, {1, 1, 2}, {1, 2, 2}, {1, 3, 3},
		{60, 10, 61}, {60, 59, 61}, {60, 60, 61}, {60, 61, 61}, {60, 62, 62},
		{1023, 0, 1024}, {1023, 1023, 1024}, {1023, 1024, 1024}, {1023, 1025, 1025},
		{1 << 30, 0, 1<<30 + 1}, {1 << 30, 1 << 29, 1<<30 + 1}, {1 << 30, 1 << 30, 1<<30 + 1}, {1<<30 - 1, 5, 1 << 30}, {1 << 30, end, end},
		{end - 2, 0, end - 1}, {end - 2, end - 2, end - 1}, {end - 2, end - 1, end - 1}, {end - 2, end, end},
		{end - 1, 0, end}, {end - 1, end - 2, end}, {end - 1, end - 1, end}, {end - 1, end, end},
		{end, 0, end}, {end, 1, end}, {end, end - 1, end}, {end, end, end},
	} {
		for _, id := range []int{7, 0, -1, lowest, highest} {
			w := New(c.now, 2)
			if h, e := w.Set(id, c.at); h != 1 || e != api.OK {
				t.Fatalf("at %d: Set(%d, %d) = %d, %d", c.now, id, c.at, h, e)
			}
			if at, ok := w.Due(1); at != c.due || !ok {
				t.Errorf("at %d: Set(%d, %d) is due at %d, %v, not %d", c.now, id, c.at, at, ok, c.due)
			}
			if at, ok := w.Next(); at != c.due || !ok || w.Len() != 1 || w.Now() != c.now {
				t.Errorf("at %d: next %d, %v; %d timers at %d", c.now, at, ok, w.Len(), w.Now())
			}
			want := []api.Timer{{Handle: 1, ID: id, At: c.due}}
			if c.now == end {
				want = nil
			}
			if l := w.Go(end); !slices.Equal(l, want) {
				t.Errorf("at %d: Set(%d, %d): %v, not %v", c.now, id, c.at, l, want)
			}
		}
	}
}

// P9.1: what is no tick is refused, and changes nothing; also where no timer more may be.
func TestSetNoTick(t *testing.T) {
	for _, now := range []int{0, 1, 1023, 1 << 30, end - 1, end} {
		for _, at := range []int{lowest, lowest + 1, -end, -2, -1, end + 1, end + 2, 1 << 41, 1 << 62, highest - 1, highest} {
			p := newPair(t, now, 2)
			for range 3 {
				if h, e := p.q.Set(1, at); h != 0 || e != api.ErrArg {
					t.Errorf("at %d: Set(1, %d) = %d, %d", now, at, h, e)
				}
				p.same()
				p.set(8, now)
				p.same()
			}
			if h, e := p.q.Set(1, at); h != 0 || e != api.ErrArg {
				t.Errorf("at %d, full: Set(1, %d) = %d, %d", now, at, h, e)
			}
			p.drain()
		}
	}
}

// P9.1 and R2: what is no tick is told ahead of a full wheel.
func TestSetOrderOfErrors(t *testing.T) {
	w := New(5, 1)
	w.Set(1, 9)
	for _, c := range []struct {
		at int
		e  api.Errno
	}{
		{0, api.ErrFull}, {5, api.ErrFull}, {9, api.ErrFull}, {end, api.ErrFull},
		{-1, api.ErrArg}, {end + 1, api.ErrArg}, {lowest, api.ErrArg}, {highest, api.ErrArg},
	} {
		if h, e := w.Set(2, c.at); h != 0 || e != c.e {
			t.Errorf("Set(2, %d) into a full wheel = %d, %d, not 0, %d", c.at, h, e, c.e)
		}
	}
	if l := w.Go(end); !slices.Equal(l, []api.Timer{{Handle: 1, ID: 1, At: 9}}) {
		t.Errorf("%v", l)
	}
}

// P9.1: handles rise by one with each timer that is set; what is refused uses none up, and none comes again.
func TestHandles(t *testing.T) {
	w := New(0, 2)
	next := 1
	set := func(at int) int {
		t.Helper()
		h, e := w.Set(3, at)
		if h != next || e != api.OK {
			t.Fatalf("Set(3, %d) = %d, %d, not %d", at, h, e, next)
		}
		next++
		return h
	}
	refused := func(at int, want api.Errno) {
		t.Helper()
		if h, e := w.Set(3, at); h != 0 || e != want {
			t.Fatalf("Set(3, %d) = %d, %d, not %d", at, h, e, want)
		}
	}
	refused(-1, api.ErrArg)
	for range 20 {
		set(w.Now() + 5)
		refused(end+1, api.ErrArg)
		last := set(0)
		refused(0, api.ErrFull)
		refused(-1, api.ErrArg)
		if !w.Cancel(last) || w.Cancel(last) {
			t.Fatalf("Cancel(%d)", last)
		}
		set(w.Now() + 1)
		if l := w.Go(w.Now() + 9); len(l) != 2 {
			t.Fatalf("%v", l)
		}
	}
}

// P9.1: a wheel holds as many as its capacity says, and no more; also once timers of a full one went or were cancelled.
func TestFull(t *testing.T) {
	for _, capacity := range []int{1, 2, 3, 7, 40} {
		p := newPair(t, 10, capacity)
		for i := range capacity {
			p.set(i, 20+i*300)
			p.same()
		}
		for range 3 {
			p.set(1, 1)
			p.set(1, end)
			p.same()
		}
		for range 3 {
			at, _ := p.w.next()
			p.goOn(at)
			p.set(500, at+7000)
			p.set(501, 0)
			p.same()
			p.cancel(p.w.row[capacity/2].Handle)
			p.set(502, 0)
			p.set(503, 0)
			p.same()
		}
		p.cancel(lowest)
		if h, e := p.q.Set(504, 1); h != 0 || e != api.ErrFull || p.q.Len() != capacity {
			t.Errorf("capacity %d: %d, %d, %d timers", capacity, h, e, p.q.Len())
		}
		p.drain()
	}
}

// P9.1: the greatest capacity, filled, and a timer that goes and one that is cancelled of it.
func TestFullMost(t *testing.T) {
	w := New(0, most)
	for i := range most {
		if h, e := w.Set(-i, 1+i*i); h != i+1 || e != api.OK {
			t.Fatalf("set %d: %d, %d", i, h, e)
		}
	}
	wantFull := func() {
		t.Helper()
		if h, e := w.Set(1, 1); h != 0 || e != api.ErrFull || w.Len() != most {
			t.Fatalf("a full wheel: %d, %d, %d timers", h, e, w.Len())
		}
	}
	wantFull()
	if l := w.Go(1); !slices.Equal(l, []api.Timer{{Handle: 1, ID: 0, At: 1}}) {
		t.Fatalf("%v", l)
	}
	if h, e := w.Set(7, 1); h != most+1 || e != api.OK {
		t.Fatalf("set behind one that went: %d, %d", h, e)
	}
	wantFull()
	if !w.Cancel(most/2) || w.Cancel(most/2) {
		t.Fatal("cancel")
	}
	if h, e := w.Set(7, end); h != most+2 || e != api.OK {
		t.Fatalf("set behind one that was cancelled: %d, %d", h, e)
	}
	wantFull()
	l := w.Go(end)
	if len(l) != most || !slices.Equal(l[:2], []api.Timer{{Handle: 2, ID: -1, At: 2}, {Handle: most + 1, ID: 7, At: 2}}) || w.Len() != 0 {
		t.Fatalf("%d went, %d are left", len(l), w.Len())
	}
}

// P9.1: an id is any number; several timers may have one.
func TestIDs(t *testing.T) {
	ids := []int{0, -1, 1, lowest, highest, 7, 7, 7, 1 << 40}
	p := newPair(t, 3, len(ids))
	for i, id := range ids {
		p.set(id, 3+i%3*1000)
	}
	p.drain()
}

// P9.1 and P9.2: at the end of time a timer is due then, never goes, and may be cancelled.
func TestEndOfTime(t *testing.T) {
	for _, from := range []int{0, 1 << 30, end - 1, end} {
		p := newPair(t, from, 4)
		if from < end {
			p.set(1, end)
			p.goOn(end)
		}
		p.same()
		for i, at := range []int{0, 5, end - 1, end} {
			p.set(10+i, at)
			p.same()
		}
		for _, h := range p.w.row {
			if at, ok := p.q.Due(h.Handle); at != end || !ok {
				t.Errorf("Due(%d) = %d, %v", h.Handle, at, ok)
			}
		}
		for _, to := range []int{end, end - 1, 0, end + 1, 1 << 41, highest} {
			if l := p.q.Go(to); len(l) != 0 {
				t.Errorf("Go(%d) = %v at the end", to, l)
			}
			p.same()
		}
		p.set(14, end) // full
		for _, h := range slices.Clone(p.w.row) {
			p.cancel(h.Handle)
			p.same()
			p.cancel(h.Handle)
		}
		p.set(15, 0)
		p.same()
	}
}

// P9.2: Go at what is no tick above the time: nothing goes, and nothing changes.
func TestGoNowhere(t *testing.T) {
	for _, now := range []int{0, 1, 50, 1024, 1 << 30, end - 1, end} {
		p := newPair(t, now, 6)
		for _, at := range []int{0, now, now + 1, now + 2, now + 5000, end} {
			p.set(at, min(at, end))
		}
		for _, to := range []int{lowest, lowest + 1, -end, -now, -1, 0, now / 2, now - 1, now, end + 1, end + 2, end + 1024, 1 << 41, 1 << 62, highest - 1, highest} {
			if l := p.q.Go(to); len(l) != 0 {
				t.Errorf("at %d: Go(%d) = %v", now, to, l)
			}
			p.same()
		}
		p.drain()
	}
}

// P9.2: Go on one tick, just to a timer's tick, one short of it, and beyond; by rising ticks, of one tick by rising handles.
func TestGo(t *testing.T) {
	w := New(10, 9)
	for i, at := range []int{30, 20, 12, 30, 5, 20, 2000, 30, 31} {
		if h, e := w.Set(100+i, at); h != i+1 || e != api.OK {
			t.Fatalf("set %d: %d, %d", i, h, e)
		}
	}
	timer := func(h, at int) api.Timer { return api.Timer{Handle: h, ID: 99 + h, At: at} }
	for _, c := range []struct {
		to       int
		gone     []api.Timer
		left, at int
	}{
		{10, nil, 9, 11},
		{11, []api.Timer{timer(5, 11)}, 8, 12},
		{11, nil, 8, 12},
		{12, []api.Timer{timer(3, 12)}, 7, 20},
		{19, nil, 7, 20},
		{30, []api.Timer{timer(2, 20), timer(6, 20), timer(1, 30), timer(4, 30), timer(8, 30)}, 2, 31},
		{1999, []api.Timer{timer(9, 31)}, 1, 2000},
		{3000, []api.Timer{timer(7, 2000)}, 0, 0},
		{end, nil, 0, 0},
	} {
		if l := w.Go(c.to); !slices.Equal(l, c.gone) {
			t.Errorf("Go(%d) = %v, not %v", c.to, l, c.gone)
		}
		if at, ok := w.Next(); w.Now() != c.to || w.Len() != c.left || at != c.at || ok != (c.left > 0) {
			t.Errorf("behind Go(%d): at %d, %d left, next %d, %v", c.to, w.Now(), w.Len(), at, ok)
		}
	}
}

// P9.2: the chapter's example, also in other steps.
func TestExample(t *testing.T) {
	for _, steps := range [][]int{{50, 100}, {5, 100}, {4, 5, 6, 99, 100}, {50, 99, 100, 101}, {100}, {end}} {
		w := New(0, 10)
		w.Set(7, 100)
		w.Set(8, 5)
		var l []api.Timer
		for _, to := range steps {
			more := w.Go(to)
			if to == 50 && (len(more) != 1 || more[0].ID != 8) {
				t.Errorf("%v: %v went up to 50", steps, more)
			}
			l = append(l, more...)
		}
		if !slices.Equal(l, []api.Timer{{Handle: 2, ID: 8, At: 5}, {Handle: 1, ID: 7, At: 100}}) || w.Len() != 0 {
			t.Errorf("%v: %v", steps, l)
		}
	}
}

// P9.2: from each edge tick to each later one: one short of it nothing goes, at it the timer does.
func TestEachDistance(t *testing.T) {
	ticks := edgeTicks()
	for i, now := range ticks {
		for _, at := range ticks[i+1:] {
			p := newPair(t, now, 3)
			p.set(5, at)
			p.numbers()
			p.goOn(at - 1)
			p.numbers()
			p.goOn(at)
			p.numbers()
			p.goOn(min(at+1, end))

			p = newPair(t, now, 3)
			p.set(6, at)
			p.set(7, now)
			p.set(8, min(at+1, end))
			p.goOn(now + (at-now)/2)
			p.numbers()
			p.set(9, at)
			p.goOn(end)
			p.same()
		}
	}
}

// P9.2 and P9.3: timers at all edge ticks in one wheel, set in several orders, gone on to through all edge ticks, or some, or none.
func TestAllDistances(t *testing.T) {
	ticks := edgeTicks()
	for i := 0; i < len(ticks); i += 5 {
		for _, step := range []int{1, 7, 31} {
			p := newPair(t, ticks[i], 2*len(ticks))
			for k := range ticks {
				p.set(k, ticks[k*31%len(ticks)])
				p.set(-k, ticks[k*31%len(ticks)])
			}
			p.same()
			for k := 0; k < len(ticks); k += step {
				p.goOn(ticks[k])
				p.numbers()
			}
			p.drain()
		}
	}
}

// severalWheels are wheels of as many timers as told, at several distances, some of them at one tick.
func severalWheels(t *testing.T, now, size int) []pair {
	t.Helper()
	rules := []func(i int) int{
		func(i int) int { return i },
		func(i int) int { return size - i },
		func(int) int { return 9 },
		func(int) int { return 70000 },
		func(i int) int { return i % 3 * 1000 },
		func(i int) int { return 1 << 30 * (i % 4) },
		func(i int) int { return 1 << (i * 7 % 40) },
	}
	var l []pair
	for _, rule := range rules {
		p := newPair(t, now, size)
		for i := range size {
			p.set(1000+i, min(now+rule(i), end))
		}
		l = append(l, p)
	}
	return l
}

// P9.2: Cancel: that timer is there no more, and all others are, wherever it stands; and not twice.
func TestCancelEach(t *testing.T) {
	for _, now := range []int{0, 1020, 1<<30 - 3, end - 70002, end - 5, end} {
		for size := 1; size <= 9; size++ {
			for handle := 1; handle <= size; handle++ {
				for _, p := range severalWheels(t, now, size) {
					p.cancel(handle)
					p.same()
					p.cancel(handle)
					p.goOn(min(now+2, end))
					p.drain()
				}
			}
		}
	}
}

// P9.2: Cancel of timers one behind the other, in several orders, some of them behind goings on.
func TestCancelAll(t *testing.T) {
	const size = 13
	for step := 1; step < size; step++ {
		for _, p := range severalWheels(t, 1000, size) {
			for i := range size {
				p.cancel(i*step%size + 1)
				p.goOn(1000 + i*i*i)
				p.same()
			}
			if p.q.Len() != 0 {
				t.Fatalf("%d are left", p.q.Len())
			}
			p.set(1, 1)
			p.drain()
		}
	}
}

// P9.2 and R5: handles that are not there: never told, gone, cancelled, and any number at all; nothing changes by them.
func TestNoSuchHandle(t *testing.T) {
	p := newPair(t, 0, 6)
	for i := range 6 {
		p.set(i, i*500+1)
	}
	p.goOn(1)
	p.cancel(4)
	for _, h := range []int{1, 4, 0, -1, -3, lowest, lowest + 1, 7, 8, 100, 1<<32 + 3, end, highest - 1, highest} {
		if p.q.Cancel(h) {
			t.Errorf("Cancel(%d)", h)
		}
		if at, ok := p.q.Due(h); at != 0 || ok {
			t.Errorf("Due(%d) = %d, %v", h, at, ok)
		}
		p.same()
	}
	p.drain()
}

// P9.2: all calls at a wheel without timers: one that is new, and ones of which all went, or were cancelled.
func TestEmpty(t *testing.T) {
	check := func(what string, w *Wheel, now int) {
		t.Helper()
		if at, ok := w.Next(); at != 0 || ok || w.Len() != 0 || w.Now() != now {
			t.Errorf("%s: next %d, %v; %d timers at %d", what, at, ok, w.Len(), w.Now())
		}
		for _, h := range []int{lowest, -1, 0, 1, 2, 3, 4, highest} {
			if at, ok := w.Due(h); at != 0 || ok || w.Cancel(h) {
				t.Errorf("%s: %d is there: %d, %v", what, h, at, ok)
			}
		}
	}
	w := New(9, 3)
	check("new", w, 9)
	w.Set(5, 20)
	w.Set(6, 3000)
	w.Go(5000)
	check("gone", w, 5000)
	w.Set(7, 6000)
	w.Cancel(3)
	check("cancelled", w, 5000)
	if l := w.Go(7000); len(l) != 0 {
		t.Errorf("%v went", l)
	}
	check("gone on", w, 7000)
	if h, e := w.Set(8, 1); h != 4 || e != api.OK {
		t.Errorf("set again: %d, %d", h, e)
	}
}

// P9.2: Next behind sets, cancels and goings on, where the least one is set later, or goes, or is cancelled.
func TestNext(t *testing.T) {
	w := New(0, 9)
	want := func(at int) {
		t.Helper()
		for range 3 {
			if got, ok := w.Next(); got != at || !ok {
				t.Fatalf("Next() = %d, %v, not %d", got, ok, at)
			}
		}
	}
	w.Set(1, 70000)
	want(70000)
	w.Set(2, 69999)
	want(69999)
	w.Set(3, 1<<30)
	want(69999)
	w.Set(4, 3)
	want(3)
	w.Cancel(4)
	want(69999)
	w.Set(5, 69999)
	w.Cancel(2)
	want(69999)
	w.Cancel(5)
	want(70000)
	w.Go(69999)
	want(70000)
	w.Set(6, 0)
	want(70000)
	w.Cancel(1)
	want(70000)
	w.Go(70000)
	want(1 << 30)
	w.Go(1<<30 - 1)
	want(1 << 30)
	w.Set(7, end)
	w.Cancel(3)
	want(end)
	w.Go(end - 1)
	want(end)
	if l := w.Go(end); len(l) != 1 || l[0].ID != 7 {
		t.Fatalf("%v", l)
	}
}

// P9.2 and R4: what Go answers is new memory.
func TestGoMemory(t *testing.T) {
	for _, p := range severalWheels(t, 5, 9) {
		for range 3 {
			at, ok := p.w.next()
			if !ok {
				break
			}
			l := p.q.Go(at)
			if want := p.w.goOn(at); !slices.Equal(l, want) {
				t.Fatalf("%v, not %v", l, want)
			}
			kept := slices.Clone(l)
			p.set(77, at+1)
			p.set(78, at+1)
			if !slices.Equal(l, kept) {
				t.Fatalf("%v changed with the wheel, it was %v", l, kept)
			}
			for i := range l[:cap(l)] {
				l[:cap(l)][i] = api.Timer{Handle: -5, ID: -5, At: -5}
			}
			_ = append(l[:0], api.Timer{}, api.Timer{}, api.Timer{})
			p.same()
		}
		p.drain()
	}
}

// P9.1 to P9.3: wheels have nothing in common.
func TestWheelsApart(t *testing.T) {
	a, b := newPair(t, 0, 4), newPair(t, 500, 9)
	for i := range 12 {
		a.set(i, i*40)
		b.set(100+i, 2000-i*90)
		a.same()
		b.same()
		if i%3 == 2 {
			a.goOn(i * 45)
			b.cancel(i - 1)
		}
	}
	a.drain()
	b.drain()
}

// twins are wheels that had the same calls.
func twins(t *testing.T, now, size, count int, m *mixer, far func() int) []pair {
	t.Helper()
	l := make([]pair, count)
	for i := range l {
		l[i] = newPair(t, now, size)
	}
	for range size {
		id, at := m.below(1000), min(now+far(), end)
		for _, p := range l {
			p.set(id, at)
		}
	}
	for range size / 5 {
		h := 1 + m.below(size)
		for _, p := range l {
			p.cancel(h)
		}
	}
	return l
}

// P9.3: in one step, in two, and tick by tick the same timers go, in the same order.
func TestStepsDontCount(t *testing.T) {
	const reach = 2600 // ticks
	m := mixer(3)
	for _, now := range []int{0, 1, 60, 4000, 1<<16 - 900, 1<<18 - 1, 1<<20 - 1300, 1<<24 - 2, 1<<30 - 1025, 5<<30 - 500, end - 1<<30 - 1200, end - reach} {
		for range 3 {
			l := twins(t, now, 60, 4, &m, func() int { return m.below(reach) })
			one, two, each, some := l[0].q, l[1].q, l[2].q, l[3].q
			want := l[0].w.goOn(now + reach)
			if got := one.Go(now + reach); !slices.Equal(got, want) {
				t.Fatalf("from %d in one step: %v, not %v", now, got, want)
			}
			first := two.Go(now + 1 + m.below(reach-1))
			if got := append(first, two.Go(now+reach)...); !slices.Equal(got, want) {
				t.Fatalf("from %d in two steps: %v, not %v", now, got, want)
			}
			var got []api.Timer
			for to := now + 1; to <= now+reach; to++ {
				more := each.Go(to)
				for _, x := range more {
					if x.At != to {
						t.Fatalf("%v went at %d", x, to)
					}
				}
				got = append(got, more...)
			}
			if !slices.Equal(got, want) {
				t.Fatalf("from %d tick by tick: %v, not %v", now, got, want)
			}
			got = nil
			for to := now; to < now+reach; to = some.Now() {
				got = append(got, some.Go(min(to+1+m.below(70), now+reach))...)
			}
			if !slices.Equal(got, want) {
				t.Fatalf("from %d in some steps: %v, not %v", now, got, want)
			}
		}
	}
}

// P9.3: the same in steps of any length, with timers at any distance.
func TestFarStepsDontCount(t *testing.T) {
	m := mixer(4)
	for round := range 60 {
		now := []int{0, 1<<30 - 5, m.far(), end - 1<<m.below(40)}[round%4]
		l := twins(t, min(now, end-1), 80, 3, &m, m.far)
		want := l[0].w.goOn(end)
		if got := l[0].q.Go(end); !slices.Equal(got, want) {
			t.Fatalf("from %d in one step: %v, not %v", now, got, want)
		}
		for _, p := range l[1:] {
			var got []api.Timer
			for p.q.Now() < end {
				got = append(got, p.q.Go(min(p.q.Now()+1+m.far(), end))...)
			}
			if !slices.Equal(got, want) || p.q.Len() != 0 {
				t.Fatalf("from %d in many steps: %v, not %v; %d left", now, got, want, p.q.Len())
			}
		}
	}
}

// P9.3: each timer goes once, at its tick; one that was cancelled never does.
func TestGoesOnce(t *testing.T) {
	m := mixer(5)
	for range 20 {
		w := New(0, 200)
		due, cancelled, went := map[int]int{}, map[int]bool{}, map[int]int{}
		for w.Now() < end {
			for range m.below(8) {
				if h, e := w.Set(0, min(w.Now()+m.far(), end)); e == api.OK {
					due[h], _ = w.Due(h)
				}
			}
			if h := 1 + m.below(len(due)+1); w.Cancel(h) {
				cancelled[h] = true
			}
			from, to := w.Now(), min(w.Now()+1+m.far(), end)
			for _, x := range w.Go(to) {
				if x.At != due[x.Handle] || x.At <= from || x.At > to {
					t.Fatalf("%v went from %d to %d, it was due at %d", x, from, to, due[x.Handle])
				}
				went[x.Handle]++
			}
		}
		for h := range due {
			if went[h] > 1 || (went[h] == 1) == cancelled[h] {
				t.Fatalf("timer %d went %d times, cancelled: %v", h, went[h], cancelled[h])
			}
		}
	}
}

// deed is one call, at a pair.
type deed func(p pair)

// fewDeeds are calls at ticks that lie near and far of a time.
func fewDeeds(now int) []deed {
	var l []deed
	for _, gap := range []int{-1, 1, 2, 1024, end} {
		at := min(max(now+gap, 0), end)
		l = append(l, func(p pair) { p.set(gap, at) })
	}
	for _, h := range []int{1, 2} {
		l = append(l, func(p pair) { p.cancel(h) })
	}
	for _, gap := range []int{1, 2, 1000, 1024, end} {
		to := min(now+gap, end)
		l = append(l, func(p pair) { p.goOn(to) })
	}
	return l
}

// wantRows holds all rows of so many calls out of few, at a time.
func wantRows(t *testing.T, now, length int) {
	t.Helper()
	few := fewDeeds(now)
	rows := 1
	for range length {
		rows *= len(few)
	}
	for row := range rows {
		p := newPair(t, now, 3)
		for range length {
			few[row%len(few)](p)
			row /= len(few)
		}
		p.same()
		p.goOn(end)
		p.same()
	}
}

// P9.1 to P9.3: all short rows of calls out of few, at several times.
func TestShortRows(t *testing.T) {
	for _, now := range []int{0, 1<<30 - 2, end - 1024, end} {
		wantRows(t, now, 3)
	}
	for _, now := range []int{1023, end - 2} {
		wantRows(t, now, 4)
	}
}

// deeds sets, cancels and goes on as it is drawn.
func deeds(p pair, m *mixer, count int, far func() int) {
	for range count {
		switch m.below(10) {
		case 0, 1:
			p.goOn(p.w.now + far())
		case 2, 3:
			p.cancel(m.below(p.w.count+3) - 1)
		case 4:
			p.set(m.below(1000), m.below(p.w.now+1))
		case 5:
			p.goOn([]int{p.w.now - 1, -1, end + 1, p.w.now, p.w.now + 1}[m.below(5)])
		case 6:
			if at, ok := p.w.next(); ok {
				p.goOn(at - m.below(2))
			}
		default:
			p.set(m.below(1000), p.w.now+far())
		}
	}
}

// P9.1 to P9.3, P1 and R8: drawn deeds against the words.
func TestDrawn(t *testing.T) {
	m := mixer(7)
	fars := []func() int{
		m.far,
		func() int { return m.below(5) },
		func() int { return m.below(300) },
		func() int { return m.below(5000) },
		func() int { return 1<<m.below(31) - 1 + m.below(3) },
		func() int { return m.below(1 << 22) },
	}
	for round := range 300 {
		now := []int{0, m.far(), end - min(m.far(), end), 1<<30 - m.below(2000), 1<<20 - m.below(2000)}[round%5]
		p := newPair(t, min(now, end), 1+m.below(60))
		for range 12 {
			deeds(p, &m, 12, fars[round%len(fars)])
			p.same()
		}
		if round%3 == 0 {
			p.drain()
			continue
		}
		p.goOn(end)
		p.same()
	}
}

// P9.2 and P9.3: as many timers as may be, at any distance, or all in one place, with cancels, in one step and in many.
func TestMany(t *testing.T) {
	for round, far := range []func(m *mixer) int{
		func(m *mixer) int { return m.far() },
		func(m *mixer) int { return m.below(1<<20) << 20 },
		func(m *mixer) int { return 1<<30 + m.below(3) },
		func(m *mixer) int { return m.below(100000) },
	} {
		m := mixer(20 + round)
		a, b := New(0, most), New(0, most)
		var want []api.Timer
		for i := range most {
			at := min(far(&m), end)
			a.Set(i, at)
			b.Set(i, at)
			want = append(want, api.Timer{Handle: i + 1, ID: i, At: max(at, 1)})
		}
		gone := make([]bool, most+1)
		for range most / 4 {
			h := 1 + m.below(most)
			if ok := a.Cancel(h); ok == gone[h] || b.Cancel(h) != ok {
				t.Fatalf("round %d: Cancel(%d) = %v", round, h, ok)
			}
			gone[h] = true
		}
		want = slices.DeleteFunc(want, func(x api.Timer) bool { return gone[x.Handle] })
		slices.SortFunc(want, func(x, y api.Timer) int {
			return cmp.Or(cmp.Compare(x.At, y.At), cmp.Compare(x.Handle, y.Handle))
		})
		if l := a.Go(end); !slices.Equal(l, want) || a.Len() != 0 {
			t.Fatalf("round %d: %d went in one step, not %d", round, len(l), len(want))
		}
		var l []api.Timer
		for b.Now() < end {
			l = append(l, b.Go(min(b.Now()+1+m.far(), end))...)
		}
		if !slices.Equal(l, want) || b.Len() != 0 {
			t.Fatalf("round %d: %d went in many steps, not %d", round, len(l), len(want))
		}
	}
}

// P1: whatever is asked, each call answers: edges of all numbers, in each pairing.
func TestAnyArguments(t *testing.T) {
	edges := []int{lowest, lowest + 1, -end, -1, 0, 1, 2, 63, 64, 1023, 1024, most, most + 1, 1 << 30, end - 1, end, end + 1, highest - 1, highest}
	for _, now := range edges {
		for _, capacity := range edges {
			q := New(now, capacity)
			if q == nil {
				continue
			}
			p := pair{t, q, &words{capacity: capacity, now: now}}
			for i, a := range edges {
				p.set(a, edges[len(edges)-1-i])
				p.set(a, edges[(i*7+3)%len(edges)])
				p.same()
				p.cancel(a)
				p.goOn(edges[(i*5+1)%len(edges)])
				p.same()
			}
			p.drain()
		}
	}
}

func ExampleWheel() {
	w := New(0, 100)
	w.Set(7, 100)
	w.Set(8, 5)
	late, _ := w.Set(9, 60)
	fmt.Println(w.Go(50), w.Cancel(late))
	at, ok := w.Next()
	fmt.Println(at, ok, w.Go(100), w.Len(), w.Now())
	// Output:
	// [{2 8 5}] true
	// 100 true [{1 7 100}] 0 100
}
