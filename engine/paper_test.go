package engine

import (
	"cmp"
	"fmt"
	"reflect"
	"slices"
	"testing"

	"usufruct/api"
	"usufruct/def"
	"usufruct/guard"
	"usufruct/journal"
	"usufruct/saga"
	"usufruct/state"
	"usufruct/store"
)

// waiter is an entry of a queue: it is written down with its weight.
type waiter struct{ handle, id, weight int }

// alarm is a timer.
type alarm struct{ handle, id, at int }

// paper is an engine in the chapter's words: its queue and its wheel are plain rows, and its journal has a store of its own, to which all is done that is done to the engine's.
type paper struct {
	s                  *store.Store
	j                  *journal.Journal
	parties            []api.Party
	gates              *guard.Guard
	limit, ageing, now int
	queue              []waiter
	timers             []alarm
	handles            int
	laid               []api.Command
	done, flight       []api.Event
}

// newPaper is an engine on paper of a state that may be.
func newPaper(s *store.Store, j *journal.Journal, parties []api.Party, limit, ageing, now int) *paper {
	p := &paper{s: s, j: j, parties: parties, limit: limit, ageing: ageing, now: now}
	p.gates, _, _ = guard.New(parties)
	for i, party := range parties {
		p.gates.Restore(i, state.Flying(j.State(), party.Name))
	}
	for _, s := range j.State().Sagas {
		p.arm(s.ID)
	}
	return p
}

// at is a saga, with its definition.
func (p *paper) at(id int) (d api.Def, s api.Saga, ok bool) {
	x := p.j.State()
	if s, ok = state.Find(x, id); ok {
		d, _ = state.Def(x, s.Def)
	}
	return d, s, ok
}

func (p *paper) do(v api.Event) (api.Command, api.Errno) {
	v.Now = p.now
	c, e := p.j.Do(v)
	if e == api.OK {
		p.done = append(p.done, v)
	}
	if e == api.ErrDown && p.flight == nil {
		p.flight = []api.Event{v}
	}
	return c, e
}

func (p *paper) disarm(id int) {
	p.queue = slices.DeleteFunc(p.queue, func(w waiter) bool { return w.id == id })
	p.timers = slices.DeleteFunc(p.timers, func(a alarm) bool { return a.id == id })
}

// set sets a timer: at the tick, or one behind the time, if that is later.
func (p *paper) set(id, at int) {
	p.handles++
	p.timers = append(p.timers, alarm{p.handles, id, min(max(at, p.now+1), api.MaxTick)})
}

func (p *paper) arm(id int) {
	p.disarm(id)
	d, s, ok := p.at(id)
	if !ok {
		return
	}
	if saga.May(d, s, p.now) {
		p.handles++
		p.queue = append(p.queue, waiter{p.handles, id, d.Steps[s.Step].Prio*p.ageing - p.now})
		if s.Phase == api.Running && d.Deadline > 0 {
			p.set(id, s.Start+d.Deadline)
		}
	} else if at, ok := saga.Due(d, s); ok {
		p.set(id, at)
	}
}

// over is an event that a command of a saga that is out is over with.
func (p *paper) over(v api.Event, how int) api.Errno {
	d, s, there := p.at(v.Saga)
	_, e := p.do(v)
	if e == api.OK && there && s.Out {
		p.gates.Over(p.gates.Find(d.Steps[s.Step].Party), p.now, how)
	}
	return e
}

// may tells whether an event of a saga may be done by layer 16, and does nothing.
func (p *paper) may(kind, id int) bool {
	_, _, e := state.Do(p.j.State(), api.Event{Kind: kind, Now: p.now, Saga: id}, p.limit)
	return e == api.OK
}

func (p *paper) goes(id int) api.Errno {
	if p.may(api.EvLate, id) {
		if e := p.over(api.Event{Kind: api.EvLate, Saga: id}, api.HowBad); e != api.OK {
			return e
		}
	}
	if p.may(api.EvExpire, id) {
		if e := p.over(api.Event{Kind: api.EvExpire, Saga: id}, api.HowLost); e != api.OK {
			return e
		}
	}
	p.arm(id)
	return api.OK
}

// free tells whether a saga may emit, and its step's party's guard lets it.
func (p *paper) free(id int) (party int, ok bool) {
	d, s, _ := p.at(id)
	if !saga.May(d, s, p.now) {
		return 0, false
	}
	party = p.gates.Find(d.Steps[s.Step].Party)
	return party, p.gates.May(party, p.now) == api.OK
}

func (p *paper) send() api.Errno {
	order := slices.Clone(p.queue)
	slices.SortFunc(order, func(a, b waiter) int { return cmp.Or(b.weight-a.weight, a.handle-b.handle) })
	for _, w := range order {
		if !p.may(api.EvEmit, w.id) {
			p.arm(w.id)
			continue
		}
		party, ok := p.free(w.id)
		if !ok {
			continue
		}
		c, e := p.do(api.Event{Kind: api.EvEmit, Saga: w.id})
		if e != api.OK {
			return e
		}
		p.gates.Send(party, p.now)
		p.laid = append(p.laid, c)
		p.arm(w.id)
	}
	return api.OK
}

// due takes out the timers above the time up to a tick, in the order in which they go.
func (p *paper) due(to int) []alarm {
	var l []alarm
	for _, a := range p.timers {
		if a.at > p.now && a.at <= to {
			l = append(l, a)
		}
	}
	slices.SortFunc(l, func(a, b alarm) int { return cmp.Or(a.at-b.at, a.handle-b.handle) })
	p.timers = slices.DeleteFunc(p.timers, func(a alarm) bool { return slices.Contains(l, a) })
	return l
}

func (p *paper) tick(n int) api.Errno {
	if n < 1 {
		return api.ErrArg
	}
	end := api.MaxTick
	if n < api.MaxTick-p.now {
		end = p.now + n
	}
	for {
		at := end
		for _, a := range p.timers {
			if a.at > p.now {
				at = min(at, a.at)
			}
		}
		e := api.OK
		l := p.due(at)
		p.now = at
		for len(l) > 0 && e == api.OK {
			if e = p.goes(l[0].id); e == api.OK {
				l = l[1:]
			}
		}
		if e == api.OK {
			e = p.send()
		}
		if e != api.OK {
			l = append(l, p.due(end)...)
			p.now = end
			for _, a := range l {
				p.arm(a.id)
			}
			return e
		}
		if at == end {
			return api.OK
		}
	}
}

func (p *paper) register(d api.Def) (int, api.Errno) {
	if at, e := def.Check(d); e != api.OK {
		return at, e
	}
	for i, step := range d.Steps {
		if !slices.ContainsFunc(p.parties, func(party api.Party) bool { return party.Name == step.Party }) {
			return i, api.ErrNone
		}
	}
	_, e := p.do(api.Event{Kind: api.EvDefine, Def: d})
	return -1, e
}

func (p *paper) start(name string) (int, api.Errno) {
	x := p.j.State()
	v := api.Event{Kind: api.EvStart, Now: p.now, Saga: x.Next, Name: name}
	if _, _, e := state.Do(x, v, p.limit); e != api.OK {
		return 0, e
	}
	if _, e := p.do(v); e != api.OK {
		return 0, e
	}
	p.arm(x.Next)
	if e := p.send(); e != api.OK {
		return 0, e
	}
	return x.Next, api.OK
}

// ask is an event from outside.
func (p *paper) ask(v api.Event, how int) api.Errno {
	if e := p.over(v, how); e != api.OK {
		return e
	}
	p.arm(v.Saga)
	return p.send()
}

func (p *paper) deliver(r api.Reply) api.Errno {
	if r.Saga < 0 || r.Step < 0 || r.Try < 0 {
		return api.ErrArg
	}
	how := map[bool]int{true: api.HowGood, false: api.HowBad}[r.Good]
	return p.ask(api.Event{Kind: api.EvReply, Saga: r.Saga, Reply: r}, how)
}

func (p *paper) call(kind, id int) api.Errno {
	if kind < api.EvCancel || kind > api.EvForget {
		return api.ErrKind
	}
	if id < 0 {
		return api.ErrArg
	}
	return p.ask(api.Event{Kind: kind, Saga: id}, api.HowLost)
}

func (p *paper) flush() ([]api.Command, api.Errno) {
	if e := p.j.Sync(); e != api.OK {
		return nil, e
	}
	l := p.laid
	p.laid = nil
	return l, api.OK
}

// look is all that can be seen of an engine without changing it.
type look struct {
	X              string // the state
	Now            int
	Flying, Broken []int // of each party, and of one that there isn't
	Queued, Timers int
	Done, Flight   string
}

func (p *paper) look() look {
	l := look{X: fmt.Sprintf("%+v", p.j.State()), Now: p.now, Queued: len(p.queue), Timers: len(p.timers), Done: fmt.Sprintf("%+v", p.done), Flight: fmt.Sprintf("%+v", p.flight)}
	for i := range p.parties {
		l.Flying = append(l.Flying, p.gates.Flying(i))
		l.Broken = append(l.Broken, p.gates.State(i, p.now))
	}
	l.Flying, l.Broken = append(l.Flying, 0), append(l.Broken, api.Closed)
	return l
}

// lookAt is what can be seen of an engine of parties.
func lookAt(g *Engine, parties []api.Party) look {
	l := look{X: fmt.Sprintf("%+v", g.State()), Now: g.Now(), Done: fmt.Sprintf("%+v", g.Done()), Flight: fmt.Sprintf("%+v", g.Flight())}
	l.Queued, l.Timers = g.Waiting()
	for _, party := range parties {
		l.Flying = append(l.Flying, g.Flying(party.Name))
		l.Broken = append(l.Broken, g.Breaker(party.Name))
	}
	l.Flying, l.Broken = append(l.Flying, g.Flying("nobody")), append(l.Broken, g.Breaker("nobody"))
	return l
}

// files are a store's files, with their bytes.
func files(s *store.Store) string {
	told := ""
	for _, name := range s.Names() {
		b, _ := s.Read(name)
		told += fmt.Sprintf("%s %x\n", name, b)
	}
	return told
}

// holds holds an engine and its store against the one on paper.
func (p *paper) holds(t *testing.T, what string, g *Engine, s *store.Store) {
	t.Helper()
	if got, want := lookAt(g, p.parties), p.look(); !reflect.DeepEqual(got, want) {
		t.Fatalf("%s: %s\nnot %s", what, tell(got), tell(want))
	}
	if s.Down() != p.s.Down() || files(s) != files(p.s) {
		t.Fatalf("%s: the store is another one", what)
	}
}
