package readyq

import (
	"fmt"
	"math"
	"slices"
	"testing"

	"usufruct/api"
)

const (
	lowest  = math.MinInt
	highest = math.MaxInt
	most    = 65536   // the greatest capacity
	slowest = 1 << 20 // the greatest ageing
	end     = 1 << 40 // the greatest tick
)

// mixer draws numbers by a rule, the same ones each time.
type mixer uint64

func (m *mixer) below(n int) int {
	*m = *m*6364136223846793005 + 1442695040888963407
	return int(uint64(*m)>>33) % n
}

// one is an entry in the words.
type one struct{ id, handle, prio, at int }

// words is a queue as the chapter's words tell it: its entries in a row, as they were put.
type words struct {
	capacity, ageing int
	count            int // how many were put
	row              []one
}

func (w *words) weight(x one) int {
	return x.prio*w.ageing - x.at
}

// firstPlace is where the first one stands in the row; -1: there is none.
func (w *words) firstPlace() int {
	best := -1
	for i, x := range w.row { // by rising handles, so that only a greater weight is better
		if best < 0 || w.weight(x) > w.weight(w.row[best]) {
			best = i
		}
	}
	return best
}

func (w *words) placeOf(handle int) int {
	return slices.IndexFunc(w.row, func(x one) bool { return x.handle == handle })
}

func (w *words) put(id, prio, now int) (int, api.Errno) {
	if prio < 0 || prio > 255 || now < 0 || now > end {
		return 0, api.ErrArg
	}
	if len(w.row) == w.capacity {
		return 0, api.ErrFull
	}
	w.count++
	w.row = append(w.row, one{id, w.count, prio, now})
	return w.count, api.OK
}

func (w *words) first() (id, handle int, ok bool) {
	if i := w.firstPlace(); i >= 0 {
		return w.row[i].id, w.row[i].handle, true
	}
	return 0, 0, false
}

func (w *words) take() (id, handle int, ok bool) {
	if id, handle, ok = w.first(); ok {
		w.remove(handle)
	}
	return id, handle, ok
}

func (w *words) remove(handle int) bool {
	i := w.placeOf(handle)
	if i < 0 {
		return false
	}
	w.row = slices.Delete(w.row, i, i+1)
	return true
}

func (w *words) order() []int {
	rest := words{ageing: w.ageing, row: slices.Clone(w.row)}
	var l []int
	for len(rest.row) > 0 {
		_, handle, _ := rest.take()
		l = append(l, handle)
	}
	return l
}

// pair is a queue and its words, to which the same is done.
type pair struct {
	t *testing.T
	q *Queue
	w *words
}

func newPair(t *testing.T, capacity, ageing int) pair {
	t.Helper()
	q := New(capacity, ageing)
	if q == nil {
		t.Fatalf("New(%d, %d) = nil", capacity, ageing)
	}
	return pair{t, q, &words{capacity: capacity, ageing: ageing}}
}

func (p pair) put(id, prio, now int) {
	p.t.Helper()
	h, e := p.q.Put(id, prio, now)
	if wantH, wantE := p.w.put(id, prio, now); h != wantH || e != wantE {
		p.t.Fatalf("Put(%d, %d, %d) = %d, %d, not %d, %d", id, prio, now, h, e, wantH, wantE)
	}
}

func (p pair) take() {
	p.t.Helper()
	id, h, ok := p.q.Take()
	if wantID, wantH, want := p.w.take(); id != wantID || h != wantH || ok != want {
		p.t.Fatalf("Take() = %d, %d, %v, not %d, %d, %v", id, h, ok, wantID, wantH, want)
	}
}

func (p pair) remove(handle int) {
	p.t.Helper()
	ok := p.q.Remove(handle)
	if want := p.w.remove(handle); ok != want {
		p.t.Fatalf("Remove(%d) = %v, not %v", handle, ok, want)
	}
}

// handles are all that were ever given, and some that never were.
func (p pair) handles() []int {
	l := []int{lowest, lowest + 1, -2, -1, 0, p.w.count + 1, p.w.count + 2, most + 1, 1 << 32, highest - 1, highest}
	for h := 1; h <= p.w.count; h++ {
		l = append(l, h)
	}
	return l
}

// same asks the queue all that it can tell and leaves it as it was, twice.
func (p pair) same() {
	p.t.Helper()
	for range 2 {
		if n := p.q.Len(); n != len(p.w.row) {
			p.t.Fatalf("Len() = %d, not %d", n, len(p.w.row))
		}
		id, h, ok := p.q.First()
		if wantID, wantH, want := p.w.first(); id != wantID || h != wantH || ok != want {
			p.t.Fatalf("First() = %d, %d, %v, not %d, %d, %v", id, h, ok, wantID, wantH, want)
		}
		if l := p.q.Order(); !slices.Equal(l, p.w.order()) {
			p.t.Fatalf("Order() = %v, not %v", l, p.w.order())
		}
		for _, h := range p.handles() {
			want, there := 0, false
			if i := p.w.placeOf(h); i >= 0 {
				want, there = p.w.weight(p.w.row[i]), true
			}
			if weight, ok := p.q.Weight(h); weight != want || ok != there {
				p.t.Fatalf("Weight(%d) = %d, %v, not %d, %v", h, weight, ok, want, there)
			}
		}
	}
}

// drain takes all there are, and once more.
func (p pair) drain() {
	p.t.Helper()
	for range len(p.w.row) + 1 {
		p.same()
		p.take()
	}
	p.same()
}

// P7.1: New at capacities and ageings at both edges, and far outside.
func TestNew(t *testing.T) {
	for _, c := range []struct {
		capacity int
		good     bool
	}{
		{lowest, false}, {lowest + 1, false}, {-most, false}, {-1, false}, {0, false},
		{1, true}, {2, true}, {1000, true}, {most - 1, true}, {most, true},
		{most + 1, false}, {1 << 20, false}, {1<<32 + 1, false}, {1 << 62, false}, {highest, false},
	} {
		for _, a := range []struct {
			ageing int
			good   bool
		}{
			{lowest, false}, {lowest + 1, false}, {-slowest, false}, {-1, false}, {0, false},
			{1, true}, {2, true}, {1000, true}, {most + 1, true}, {slowest - 1, true}, {slowest, true},
			{slowest + 1, false}, {1<<32 + 1, false}, {end, false}, {highest, false},
		} {
			q := New(c.capacity, a.ageing)
			if (q != nil) != (c.good && a.good) {
				t.Errorf("New(%d, %d) = %v", c.capacity, a.ageing, q)
			}
			if q != nil {
				newPair(t, c.capacity, a.ageing).same()
			}
		}
	}
}

// P7.1: a queue holds as many as its capacity says, and no more; also once entries were taken or removed from a full one.
func TestFull(t *testing.T) {
	for _, capacity := range []int{1, 2, 3, 7, 40} {
		p := newPair(t, capacity, 10)
		for i := range capacity {
			p.put(i, i%256, i*7)
			p.same()
		}
		for range 3 {
			p.put(1, 1, 1)
			p.put(1, 255, end)
			p.same()
		}
		for range 3 {
			p.take()
			p.put(500, 0, 3)
			p.put(501, 255, 0)
			p.same()
			p.remove(p.w.row[capacity/2].handle)
			p.put(502, 100, 3)
			p.put(503, 255, 0)
			p.same()
		}
		p.remove(lowest)
		p.put(504, 1, 1)
		if _, e := p.q.Put(504, 1, 1); e != api.ErrFull || p.q.Len() != capacity {
			t.Errorf("capacity %d: %d, %d entries", capacity, e, p.q.Len())
		}
		p.drain()
	}
}

// P7.1: the greatest capacity, filled, and an entry taken and one removed of it.
func TestFullMost(t *testing.T) {
	q := New(most, 1)
	for i := range most {
		if h, e := q.Put(i, 0, i); h != i+1 || e != api.OK {
			t.Fatalf("put %d: %d, %d", i, h, e)
		}
	}
	wantFull := func() {
		t.Helper()
		if h, e := q.Put(1, 0, 0); h != 0 || e != api.ErrFull || q.Len() != most {
			t.Fatalf("a full queue: %d, %d, %d entries", h, e, q.Len())
		}
	}
	wantFull()
	if id, h, ok := q.Take(); id != 0 || h != 1 || !ok {
		t.Fatalf("took %d, %d, %v", id, h, ok)
	}
	if h, e := q.Put(7, 0, 1); h != most+1 || e != api.OK {
		t.Fatalf("put behind a take: %d, %d", h, e)
	}
	wantFull()
	if !q.Remove(most/2) || q.Remove(most/2) {
		t.Fatal("remove")
	}
	if h, e := q.Put(7, 0, 1); h != most+2 || e != api.OK {
		t.Fatalf("put behind a remove: %d, %d", h, e)
	}
	wantFull()
}

// P7.1: Put at each edge of priorities and ticks, and outside; in each pairing, with room and without.
func TestPutArguments(t *testing.T) {
	prios := []int{lowest, lowest + 1, -256, -1, 0, 1, 128, 254, 255, 256, 257, 1 << 32, 1 << 56, highest - 1, highest}
	nows := []int{lowest, lowest + 1, -end, -1, 0, 1, 1 << 20, end - 1, end, end + 1, 1 << 41, 1 << 62, highest - 1, highest}
	for _, prio := range prios {
		for _, now := range nows {
			goodPrio := prio == 0 || prio == 1 || prio == 128 || prio == 254 || prio == 255
			goodNow := now == 0 || now == 1 || now == 1<<20 || now == end-1 || now == end
			q := New(1, 3)
			h, e := q.Put(9, prio, now)
			wantH, wantE, wantN := 1, api.OK, 1
			if !goodPrio || !goodNow {
				wantH, wantE, wantN = 0, api.ErrArg, 0
			}
			if h != wantH || e != wantE || q.Len() != wantN {
				t.Errorf("Put(9, %d, %d) = %d, %d, not %d, %d; %d entries", prio, now, h, e, wantH, wantE, q.Len())
			}
			p := newPair(t, 2, 3)
			p.put(8, 1, 1)
			p.put(9, prio, now)
			p.same()
			p.put(10, 2, 2)
			p.put(11, prio, now) // it is full now, or not: wrong arguments are looked for ahead of that
			p.same()
			p.put(12, 0, 0)
			p.drain()
		}
	}
}

// P7.1 and R2: wrong arguments are told ahead of a full queue.
func TestPutOrderOfErrors(t *testing.T) {
	q := New(1, 1)
	q.Put(1, 1, 1)
	for _, c := range []struct {
		prio, now int
		e         api.Errno
	}{
		{1, 1, api.ErrFull}, {0, 0, api.ErrFull}, {255, end, api.ErrFull},
		{-1, 1, api.ErrArg}, {256, 1, api.ErrArg}, {lowest, 1, api.ErrArg}, {highest, 1, api.ErrArg},
		{1, -1, api.ErrArg}, {1, end + 1, api.ErrArg}, {1, lowest, api.ErrArg}, {1, highest, api.ErrArg},
		{-1, -1, api.ErrArg}, {256, end + 1, api.ErrArg}, {lowest, highest, api.ErrArg},
	} {
		if h, e := q.Put(2, c.prio, c.now); h != 0 || e != c.e {
			t.Errorf("Put(2, %d, %d) into a full queue = %d, %d, not 0, %d", c.prio, c.now, h, e, c.e)
		}
	}
}

// P7.1: handles rise by one with each entry that is put; what is refused uses none up, and none comes again.
func TestHandles(t *testing.T) {
	q := New(2, 5)
	next := 1
	put := func(id int) int {
		t.Helper()
		h, e := q.Put(id, 3, 4)
		if h != next || e != api.OK {
			t.Fatalf("put: %d, %d, not %d", h, e, next)
		}
		next++
		return h
	}
	refused := func(prio, now int, e api.Errno) {
		t.Helper()
		if h, got := q.Put(1, prio, now); h != 0 || got != e {
			t.Fatalf("Put(1, %d, %d) = %d, %d, not %d", prio, now, h, got, e)
		}
	}
	refused(-1, 0, api.ErrArg)
	for range 20 {
		put(1)
		refused(256, 0, api.ErrArg)
		refused(0, -1, api.ErrArg)
		last := put(2)
		refused(0, 0, api.ErrFull)
		refused(-1, 0, api.ErrArg)
		if !q.Remove(last) {
			t.Fatalf("Remove(%d)", last)
		}
		put(3)
		q.Take()
		q.Take()
		q.Take()
	}
}

// P7.1: an id is any number; several entries may have one.
func TestIDs(t *testing.T) {
	ids := []int{0, -1, 1, lowest, highest, 7, 7, 7, 1 << 40}
	p := newPair(t, len(ids), 4)
	for i, id := range ids {
		p.put(id, i%3, i)
	}
	p.drain()
}

// P7.1: queues have nothing in common.
func TestQueuesApart(t *testing.T) {
	a, b := newPair(t, 4, 10), newPair(t, 9, 1)
	for i := range 12 {
		a.put(i, i%4, i)
		b.put(100+i, 200-i, 3*i)
		a.same()
		b.same()
		if i%3 == 2 {
			a.take()
			b.remove(i - 1)
		}
	}
	a.drain()
	b.drain()
}

// P7.2: all calls at an empty queue: one that is new, and ones of which all was taken, or removed.
func TestEmpty(t *testing.T) {
	check := func(what string, q *Queue) {
		t.Helper()
		if id, h, ok := q.First(); id != 0 || h != 0 || ok {
			t.Errorf("%s: First() = %d, %d, %v", what, id, h, ok)
		}
		if id, h, ok := q.Take(); id != 0 || h != 0 || ok {
			t.Errorf("%s: Take() = %d, %d, %v", what, id, h, ok)
		}
		if l := q.Order(); len(l) != 0 || q.Len() != 0 {
			t.Errorf("%s: %v, %d entries", what, l, q.Len())
		}
		for _, h := range []int{lowest, -1, 0, 1, 2, 3, highest} {
			if weight, ok := q.Weight(h); weight != 0 || ok || q.Remove(h) {
				t.Errorf("%s: %d is there: %d, %v", what, h, weight, ok)
			}
		}
	}
	q := New(3, 10)
	check("new", q)
	q.Put(5, 1, 1)
	q.Put(6, 2, 1)
	q.Take()
	q.Take()
	check("taken", q)
	q.Put(7, 1, 1)
	q.Remove(3)
	check("removed", q)
	if h, e := q.Put(8, 1, 1); h != 4 || e != api.OK {
		t.Errorf("put again: %d, %d", h, e)
	}
}

// P7.2: all calls at one entry.
func TestOne(t *testing.T) {
	for _, c := range []struct{ ageing, prio, now, weight int }{
		{1, 0, 0, 0}, {10, 1, 0, 10}, {10, 3, 5, 25}, {10, 0, 5, -5}, {7, 255, 0, 1785},
		{1, 0, end, -end}, {slowest, 255, 0, 267386880}, {slowest, 255, end, 267386880 - end}, {slowest, 1, 1, slowest - 1},
	} {
		q := New(1, c.ageing)
		q.Put(77, c.prio, c.now)
		if id, h, ok := q.First(); id != 77 || h != 1 || !ok {
			t.Errorf("First() = %d, %d, %v", id, h, ok)
		}
		if weight, ok := q.Weight(1); weight != c.weight || !ok {
			t.Errorf("ageing %d, Put(77, %d, %d): weight %d, %v, not %d", c.ageing, c.prio, c.now, weight, ok, c.weight)
		}
		if l := q.Order(); !slices.Equal(l, []int{1}) || q.Len() != 1 {
			t.Errorf("%v, %d entries", l, q.Len())
		}
		if id, h, ok := q.Take(); id != 77 || h != 1 || !ok || q.Len() != 0 {
			t.Errorf("Take() = %d, %d, %v", id, h, ok)
		}
		q.Put(78, c.prio, c.now)
		if !q.Remove(2) || q.Remove(2) || q.Len() != 0 {
			t.Error("remove")
		}
	}
}

// P7.2: First leaves the queue as it was, as often as it is asked.
func TestFirstLeaves(t *testing.T) {
	p := newPair(t, 9, 10)
	for i, prio := range []int{3, 1, 4, 1, 5, 9, 2, 6, 5} {
		p.put(i, prio, 0)
	}
	for range 20 {
		if id, h, ok := p.q.First(); id != 5 || h != 6 || !ok {
			t.Fatalf("First() = %d, %d, %v", id, h, ok)
		}
	}
	p.drain()
}

// severalQueues are queues of as many entries as told, in several orders of weights, some of them alike.
func severalQueues(t *testing.T, size int) []pair {
	t.Helper()
	rules := []func(i int) (prio, at int){
		func(i int) (int, int) { return i, 0 },
		func(i int) (int, int) { return size - i, 0 },
		func(i int) (int, int) { return 5, i },
		func(i int) (int, int) { return 5, size - i },
		func(i int) (int, int) { return 2, 3 },
		func(i int) (int, int) { return i % 3, i % 2 * 10 },
		func(i int) (int, int) { return i * 7 % size, i * 5 % size * 4 },
	}
	var l []pair
	for _, rule := range rules {
		p := newPair(t, size, 10)
		for i := range size {
			prio, at := rule(i)
			p.put(1000+i, prio, at)
		}
		l = append(l, p)
	}
	return l
}

// P7.2: Remove: that entry goes and no other, wherever it stands; and not twice.
func TestRemoveEach(t *testing.T) {
	for size := 1; size <= 16; size++ {
		for handle := 1; handle <= size; handle++ {
			for _, p := range severalQueues(t, size) {
				p.remove(handle)
				p.same()
				p.remove(handle)
				p.drain()
			}
		}
	}
}

// P7.2: Remove of entries one behind the other, in several orders.
func TestRemoveAll(t *testing.T) {
	const size = 13
	for step := 1; step < size; step++ {
		for _, p := range severalQueues(t, size) {
			for i := range size {
				p.remove(i*step%size + 1)
				p.same()
			}
			if p.q.Len() != 0 {
				t.Fatalf("%d are left", p.q.Len())
			}
		}
	}
}

// P7.2 and R5: handles that are not there: never given, taken, removed, and any number at all; nothing changes by them.
func TestNoSuchHandle(t *testing.T) {
	p := newPair(t, 6, 10)
	for i := range 6 {
		p.put(i, i, i)
	}
	p.take()
	p.remove(2)
	for _, h := range []int{2, 6, 0, -1, -3, lowest, lowest + 1, 7, 8, 100, 1<<32 + 3, 1 << 40, highest - 1, highest} {
		if p.q.Remove(h) {
			t.Errorf("Remove(%d)", h)
		}
		if weight, ok := p.q.Weight(h); weight != 0 || ok {
			t.Errorf("Weight(%d) = %d, %v", h, weight, ok)
		}
		p.same()
	}
	p.drain()
}

// P7.2: what Order answers is what is taken then; and Order changes nothing.
func TestOrderAgainstTakes(t *testing.T) {
	for size := 1; size <= 20; size++ {
		for _, p := range severalQueues(t, size) {
			order := p.q.Order()
			for i, want := range order {
				if rest := p.q.Order(); !slices.Equal(rest, order[i:]) {
					t.Fatalf("Order() = %v, not %v", rest, order[i:])
				}
				if id, h, ok := p.q.Take(); h != want || id != 999+want || !ok {
					t.Fatalf("take %d: %d, %d, %v, not %d", i, id, h, ok, want)
				}
			}
			if len(order) != size || p.q.Len() != 0 {
				t.Fatalf("%v of %d, %d are left", order, size, p.q.Len())
			}
		}
	}
}

// P7.2 and R4: what Order answers is new memory.
func TestOrderMemory(t *testing.T) {
	for _, p := range severalQueues(t, 9) {
		want := p.w.order()
		kept := p.q.Order()
		l := p.q.Order()
		for i := range l[:cap(l)] {
			l[:cap(l)][i] = -5
		}
		_ = append(l[:0], 1, 2, 3)
		if !slices.Equal(kept, want) {
			t.Fatalf("%v changed, it was %v", kept, want)
		}
		p.same()
		p.drain()
		p.put(1, 1, 1)
		if !slices.Equal(kept, want) {
			t.Fatalf("%v changed with the queue, it was %v", kept, want)
		}
	}
}

// P7.3 and the chapter's example: ageing 10, priority 1 put at 0 comes ahead of priority 2 put at 11.
func TestExample(t *testing.T) {
	for _, c := range []struct {
		first, second [2]int // priority and tick
		order         []int
	}{
		{[2]int{1, 0}, [2]int{2, 11}, []int{1, 2}},
		{[2]int{2, 11}, [2]int{1, 0}, []int{2, 1}},
		{[2]int{1, 0}, [2]int{2, 10}, []int{1, 2}}, // alike
		{[2]int{2, 10}, [2]int{1, 0}, []int{1, 2}}, // alike
		{[2]int{1, 0}, [2]int{2, 9}, []int{2, 1}},
		{[2]int{2, 9}, [2]int{1, 0}, []int{1, 2}},
	} {
		q := New(2, 10)
		q.Put(31, c.first[0], c.first[1])
		q.Put(32, c.second[0], c.second[1])
		if l := q.Order(); !slices.Equal(l, c.order) {
			t.Errorf("%v, %v: %v, not %v", c.first, c.second, l, c.order)
		}
		for _, want := range c.order {
			if id, h, ok := q.Take(); id != 30+want || h != want || !ok {
				t.Errorf("%v, %v: took %d, %d, %v, not %d", c.first, c.second, id, h, ok, want)
			}
		}
	}
}

// wantFalling takes all there are: by falling weights, of like ones by rising handles.
func wantFalling(t *testing.T, q *Queue) {
	t.Helper()
	lastWeight, last := highest, 0
	for q.Len() > 0 {
		n := q.Len()
		_, h, ok := q.First()
		weight, there := q.Weight(h)
		_, taken, took := q.Take()
		if !ok || !there || !took || taken != h || q.Len() != n-1 {
			t.Fatalf("first %d, %v, %v; took %d, %v; %d of %d", h, ok, there, taken, took, q.Len(), n)
		}
		if weight > lastWeight || weight == lastWeight && h <= last {
			t.Fatalf("%d of weight %d came behind %d of weight %d", h, weight, last, lastWeight)
		}
		lastWeight, last = weight, h
	}
}

// deeds puts, takes and removes as it is drawn; few priorities and ticks, so that many are alike, or many.
func deeds(p pair, m *mixer, count int, few bool) {
	for range count {
		switch m.below(8) {
		case 0, 1:
			p.take()
		case 2:
			p.remove(m.below(p.w.count+3) - 1)
		default:
			prio, now := m.below(256), m.below(1<<20)*m.below(1<<20)
			if few {
				prio, now = m.below(3), m.below(4)*5
			}
			p.put(m.below(1000), prio, now)
		}
	}
}

// P7.1 to P7.3, P1 and R8: drawn deeds against the words; then takes without puts.
func TestDrawn(t *testing.T) {
	m := mixer(7)
	for round := range 200 {
		p := newPair(t, 1+m.below(40), []int{1, 2, 5, 10, 1000, slowest}[round%6])
		for range 8 {
			deeds(p, &m, 12, round%2 == 0)
			p.same()
		}
		if round%4 == 0 {
			p.drain()
			continue
		}
		wantFalling(t, p.q)
	}
}

// P7.3: takes without puts at many entries, behind many deeds.
func TestFallingMany(t *testing.T) {
	m := mixer(8)
	for _, ageing := range []int{1, 10, slowest} {
		q := New(most, ageing)
		for i := range most {
			q.Put(i, m.below(256), m.below(5000))
		}
		for range 20000 {
			q.Remove(1 + m.below(most))
			q.Take()
		}
		for i := range 3000 {
			q.Put(i, m.below(256), m.below(5000))
		}
		order := q.Order()
		if len(order) != q.Len() || q.Len() == 0 {
			t.Fatalf("%d in the order of %d", len(order), q.Len())
		}
		for i, want := range order[:1000] {
			if _, h, ok := q.Take(); h != want || !ok {
				t.Fatalf("take %d: %d, %v, not %d", i, h, ok, want)
			}
		}
		wantFalling(t, q)
	}
}

// wantAhead puts both entries, in both orders of handles: the one of id 1 comes first.
func wantAhead(t *testing.T, ageing int, first, second [2]int) {
	t.Helper()
	for _, turned := range []bool{false, true} {
		q := New(2, ageing)
		if turned {
			q.Put(2, second[0], second[1])
		}
		q.Put(1, first[0], first[1])
		if !turned {
			q.Put(2, second[0], second[1])
		}
		if id, _, ok := q.Take(); id != 1 || !ok || q.Len() != 1 {
			t.Fatalf("ageing %d, turned %v: %v came ahead of %v", ageing, turned, second, first)
		}
	}
}

// P7.3: an entry stands behind none that is put more than 255 times the ageing ticks later, at each priority.
func TestWaitsAtMost(t *testing.T) {
	for _, ageing := range []int{1, 2, 10, 1000, slowest - 1, slowest} {
		wait := 255 * ageing
		for prio := range 256 {
			for _, at := range []int{0, 1, 12345, end - wait - 1} {
				for _, other := range []int{0, 1, prio, 254, 255} {
					wantAhead(t, ageing, [2]int{prio, at}, [2]int{other, at + wait + 1})
					wantAhead(t, ageing, [2]int{prio, at}, [2]int{other, end})
				}
			}
		}
		// So many ticks later, and no more, they are alike; one tick less, and the greatest priority comes ahead of the least.
		for _, at := range []int{0, 77, end - wait} {
			q := New(2, ageing)
			q.Put(1, 0, at)
			q.Put(2, 255, at+wait)
			if l := q.Order(); !slices.Equal(l, []int{1, 2}) {
				t.Errorf("ageing %d, at %d: %v", ageing, at, l)
			}
			wantAhead(t, ageing, [2]int{255, at + wait - 1}, [2]int{0, at})
		}
	}
}

// P7.3: who waits is taken at last, though at each tick one of the greatest priority is put, and one is taken.
func TestTakenAtLast(t *testing.T) {
	for _, ageing := range []int{1, 3, 40} {
		q := New(most, ageing)
		q.Put(-1, 0, 0)
		for now := 0; ; now++ {
			q.Put(now, 255, now)
			id, _, ok := q.Take()
			if !ok || now > 255*ageing {
				t.Fatalf("ageing %d: it waits at %d still", ageing, now)
			}
			if id == -1 {
				if now != 255*ageing {
					t.Errorf("ageing %d: taken at %d, not %d", ageing, now, 255*ageing)
				}
				break
			}
			if id != now {
				t.Fatalf("ageing %d: %d was taken at %d", ageing, id, now)
			}
		}
	}
}

// P7.3: who waits comes ahead of a whole queue of those that are put too late.
func TestAheadOfAll(t *testing.T) {
	q := New(most, slowest)
	for i := range most - 1 {
		q.Put(i, i%256, 255*slowest+1+i)
	}
	q.Put(-1, 0, 0)
	if id, h, ok := q.First(); id != -1 || h != most || !ok {
		t.Errorf("First() = %d, %d, %v", id, h, ok)
	}
	if l := q.Order(); len(l) != most || l[0] != most {
		t.Errorf("%d handles, %v first", len(l), l[:1])
	}
}

// P1: whatever is asked, each call answers: edges of all numbers, in each pairing.
func TestAnyArguments(t *testing.T) {
	edges := []int{lowest, lowest + 1, -end, -256, -1, 0, 1, 2, 255, 256, most, most + 1, slowest, slowest + 1, end, end + 1, highest - 1, highest}
	for _, capacity := range edges {
		for _, ageing := range edges {
			q := New(capacity, ageing)
			if q == nil {
				continue
			}
			p := pair{t, q, &words{capacity: capacity, ageing: ageing}}
			for i, a := range edges {
				p.put(a, edges[len(edges)-1-i], edges[(i*7+3)%len(edges)])
				p.put(a, i, edges[(i*5+1)%len(edges)])
				p.same()
				p.remove(a)
			}
			p.drain()
		}
	}
}

func ExampleQueue() {
	q := New(100, 10)
	q.Put(501, 1, 0)
	late, _ := q.Put(502, 2, 11)
	weight, _ := q.Weight(late)
	fmt.Println(q.Order(), weight)
	id, handle, ok := q.Take()
	fmt.Println(id, handle, ok, q.Remove(late), q.Len())
	// Output:
	// [1 2] 9
	// 501 1 true true 0
}
