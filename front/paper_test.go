package front

import (
	"fmt"
	"reflect"
	"slices"
	"testing"

	"usufruct/api"
	"usufruct/engine"
	"usufruct/journal"
	"usufruct/state"
	"usufruct/store"
)

// caller is what a call is made at: a front, or one on paper.
type caller interface {
	Register(d api.Def) (int, api.Errno)
	Start(name string) (int, api.Errno)
	Deliver(r api.Reply) api.Errno
	Cancel(id int) api.Errno
	Retry(id int) api.Errno
	Skip(id int) api.Errno
	Abandon(id int) api.Errno
	Forget(id int) api.Errno
	Tick(n int) api.Errno
	Checkpoint() api.Errno
	Crash()
	Fuse(n int)
	Restart(keep []int) api.Errno
	Take() []api.Command
}

// order is a call that is still to be made: what it is in a test's words, and what its place or its number is beside ErrDown (0 of those that have none).
type order struct {
	what string
	none int
	do   func(c caller) (n int, e api.Errno)
}

// plain is an order without a number.
func plain(what string, do func(c caller) api.Errno) order {
	return order{what, 0, func(c caller) (int, api.Errno) { return 0, do(c) }}
}

func registering(d api.Def) order {
	return order{"Register " + d.Name, -1, func(c caller) (int, api.Errno) { return c.Register(d) }}
}

func starting(name string) order {
	return order{"Start " + name, 0, func(c caller) (int, api.Errno) { return c.Start(name) }}
}

func delivering(r api.Reply) order {
	return plain(fmt.Sprintf("Deliver %+v", r), func(c caller) api.Errno { return c.Deliver(r) })
}

func cancelling(id int) order {
	return plain(fmt.Sprint("Cancel ", id), func(c caller) api.Errno { return c.Cancel(id) })
}

func retrying(id int) order {
	return plain(fmt.Sprint("Retry ", id), func(c caller) api.Errno { return c.Retry(id) })
}

func skipping(id int) order {
	return plain(fmt.Sprint("Skip ", id), func(c caller) api.Errno { return c.Skip(id) })
}

func abandoning(id int) order {
	return plain(fmt.Sprint("Abandon ", id), func(c caller) api.Errno { return c.Abandon(id) })
}

func forgetting(id int) order {
	return plain(fmt.Sprint("Forget ", id), func(c caller) api.Errno { return c.Forget(id) })
}

func ticking(n int) order {
	return plain(fmt.Sprint("Tick ", n), func(c caller) api.Errno { return c.Tick(n) })
}

func keeping() order {
	return plain("Checkpoint", func(c caller) api.Errno { return c.Checkpoint() })
}

// paper is a front in the chapter's words: it is led over a store, a journal and an engine of its own, and each event is written down when it was done.
type paper struct {
	c        api.Config
	s        *store.Store
	j        *journal.Journal
	g        *engine.Engine
	now      int
	outbox   []api.Command
	written  int         // how many of the engine's events were written down
	past     []api.Event // those that are sure
	open     []api.Event // since the last acknowledged call, or the last restart
	doubtful []api.Event // those of the call in which the power went
	found    int         // how many of these the last restart found
}

// newPaper is a front on paper of a config that may be.
func newPaper(c api.Config) *paper {
	p := &paper{c: c, s: store.New(c.Volume)}
	p.make()
	return p
}

func (p *paper) make() api.Errno {
	j, e := journal.Open(p.s, p.c.Segment, p.c.Limit)
	if e != api.OK {
		return e
	}
	g, _, e := engine.New(j, p.c.Parties, p.c.Limit, p.c.Ageing, p.now)
	if e != api.OK {
		panic(fmt.Sprint("no engine on paper: ", e))
	}
	p.j, p.g, p.written = j, g, 0
	return api.OK
}

// call is what each call is.
func (p *paper) call(do func() api.Errno) api.Errno {
	if p.s.Down() {
		return api.ErrDown
	}
	e := do()
	l, down := p.g.Flush()
	p.now = p.g.Now()
	news := p.g.Done()[p.written:]
	p.written += len(news)
	p.open = append(p.open, news...)
	if p.s.Down() {
		p.open = append(p.open, p.g.Flight()...)
		p.doubtful = append(news, p.g.Flight()...)
		return api.ErrDown
	}
	if down != api.OK {
		panic(fmt.Sprint("no flush on paper: ", down))
	}
	p.outbox = append(p.outbox, l...)
	p.past = append(p.past, news...)
	if e == api.OK {
		p.open = nil
	}
	return e
}

func (p *paper) Register(d api.Def) (int, api.Errno) {
	step := -1
	e := p.call(func() (e api.Errno) {
		step, e = p.g.Register(d)
		return e
	})
	if e == api.ErrDown {
		step = -1
	}
	return step, e
}

func (p *paper) Start(name string) (int, api.Errno) {
	id := 0
	e := p.call(func() (e api.Errno) {
		id, e = p.g.Start(name)
		return e
	})
	if e == api.ErrDown {
		id = 0
	}
	return id, e
}

func (p *paper) Deliver(r api.Reply) api.Errno {
	return p.call(func() api.Errno { return p.g.Deliver(r) })
}

func (p *paper) ask(kind, id int) api.Errno {
	return p.call(func() api.Errno { return p.g.Call(kind, id) })
}

func (p *paper) Cancel(id int) api.Errno  { return p.ask(api.EvCancel, id) }
func (p *paper) Retry(id int) api.Errno   { return p.ask(api.EvRetry, id) }
func (p *paper) Skip(id int) api.Errno    { return p.ask(api.EvSkip, id) }
func (p *paper) Abandon(id int) api.Errno { return p.ask(api.EvAbandon, id) }
func (p *paper) Forget(id int) api.Errno  { return p.ask(api.EvForget, id) }

func (p *paper) Tick(n int) api.Errno {
	if p.s.Down() {
		switch {
		case n > api.MaxTick-p.now:
			p.now = api.MaxTick
		case n > 0:
			p.now += n
		}
	}
	return p.call(func() api.Errno { return p.g.Tick(n) })
}

func (p *paper) Checkpoint() api.Errno {
	return p.call(p.g.Checkpoint)
}

func (p *paper) Take() []api.Command {
	l := p.outbox
	p.outbox = nil
	return l
}

func (p *paper) Crash()     { p.s.Crash() }
func (p *paper) Fuse(n int) { p.s.Fuse(n) }

func (p *paper) Restart(keep []int) api.Errno {
	if !p.s.Down() {
		return api.ErrState
	}
	p.s.Boot(keep)
	if e := p.make(); e != api.OK {
		return e
	}
	// All beginnings of what was doubtful are tried, so that it is seen, too, that just one comes to what was found.
	var counts []int
	for n := range len(p.doubtful) + 1 {
		if x := stateOf(append(slices.Clone(p.past), p.doubtful[:n]...), p.c.Limit); state.Same(x, p.g.State()) {
			counts = append(counts, n)
		}
	}
	if len(counts) != 1 {
		panic(fmt.Sprintf("%v beginnings of %s are there", counts, words(p.doubtful)))
	}
	p.found = counts[0]
	p.past = append(p.past, p.doubtful[:p.found]...)
	p.open, p.doubtful = nil, nil
	return api.OK
}

// stateOf is what events come to from the state of nothing on. Each one must be one that layer 16 does.
func stateOf(l []api.Event, limit int) (x api.State) {
	for i, v := range l {
		y, _, e := state.Do(x, v, limit)
		if e != api.OK {
			panic(fmt.Sprintf("event %d of %s: %d", i, words(l), e))
		}
		x = y
	}
	return x
}

// look is all that can be seen of a front without changing it, and its outbox, and its store's files.
type look struct {
	State, Tail, Past, Outbox, Files string
	Now                              int
	Down                             bool
	Load                             [4]int
	Sagas                            []string // what Status answers
	Lists                            []string // what List answers
}

func tellState(x api.State) string {
	return fmt.Sprintf("%d %+v %+v", x.Next, x.Defs, x.Sagas)
}

func tellEvents(l []api.Event) string {
	if len(l) == 0 {
		return ""
	}
	return fmt.Sprintf("%+v", l)
}

// files are a store's files, with their bytes.
func files(s *store.Store) string {
	told := ""
	for _, name := range s.Names() {
		b, _ := s.Read(name)
		told += fmt.Sprintf("%s %x\n", name, b)
	}
	return told
}

func lookAt(f *Front) look {
	l := look{State: tellState(f.State()), Tail: tellEvents(f.Tail()), Past: tellEvents(f.Past()), Outbox: commands(f.outbox), Files: files(f.store), Now: f.Now(), Down: f.Down()}
	l.Load[0], l.Load[1], l.Load[2], l.Load[3] = f.Load()
	for _, id := range idsAround(f.State()) {
		s, e := f.Status(id)
		l.Sagas = append(l.Sagas, fmt.Sprintf("%d: %+v %d", id, s, e))
	}
	for phase := -2; phase < 9; phase++ {
		ids, e := f.List(phase)
		l.Lists = append(l.Lists, fmt.Sprint(append([]int{}, ids...), e))
	}
	return l
}

// idsAround are numbers of sagas that are there, and such as aren't.
func idsAround(x api.State) []int {
	ids := []int{-1, 0, 1, x.Next - 1, x.Next}
	for _, s := range x.Sagas {
		ids = append(ids, s.ID)
	}
	return ids
}

func (p *paper) look() look {
	var x api.State
	l := look{Tail: tellEvents(p.open), Past: tellEvents(p.past), Outbox: commands(p.outbox), Files: files(p.s), Now: p.now, Down: p.s.Down()}
	down := api.OK
	if p.s.Down() {
		down = api.ErrDown
	} else {
		x = p.g.State()
		for _, party := range p.c.Parties {
			l.Load[0] += p.g.Flying(party.Name)
		}
		l.Load[1], l.Load[2] = p.g.Waiting()
		l.Load[3] = p.j.Bytes()
	}
	l.State = tellState(x)
	for _, id := range idsAround(x) {
		s, e := api.Saga{}, down
		if at := slices.IndexFunc(x.Sagas, func(s api.Saga) bool { return s.ID == id }); at >= 0 {
			s = x.Sagas[at]
		} else if down == api.OK {
			e = api.ErrNone
		}
		l.Sagas = append(l.Sagas, fmt.Sprintf("%d: %+v %d", id, s, e))
	}
	for phase := -2; phase < 9; phase++ {
		ids, e := []int{}, down
		for _, s := range x.Sagas {
			if s.Phase == phase {
				ids = append(ids, s.ID)
			}
		}
		if phase < 0 || phase > 5 {
			ids, e = []int{}, api.ErrKind
		}
		l.Lists = append(l.Lists, fmt.Sprint(ids, e))
	}
	return l
}

// holds holds a front against the one on paper.
func (p *paper) holds(t *testing.T, what string, f *Front) {
	t.Helper()
	alike(t, what, lookAt(f), p.look())
}

// alike holds that two looks are.
func alike(t *testing.T, what string, got, want look) {
	t.Helper()
	if !reflect.DeepEqual(got, want) {
		t.Fatalf("%s: %s\nnot %s", what, tell(got), tell(want))
	}
}
