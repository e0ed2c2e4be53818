package saga

import (
	"fmt"
	"math"
	"slices"
	"strconv"
	"testing"

	"usufruct/api"
	"usufruct/def"
)

const (
	lowest    = math.MinInt
	highest   = math.MaxInt
	end       = 1 << 40 // the greatest tick
	mostSkips = 32
	mostSteps = 32
)

// mixer draws numbers by a rule, the same ones each time.
type mixer uint64

func (m *mixer) below(n int) int {
	*m = *m*6364136223846793005 + 1442695040888963407
	return int(uint64(*m)>>33) % n
}

// isTick tells whether n is one.
func isTick(n int) bool {
	return 0 <= n && n <= end
}

// isOver tells whether a saga is over, by the chapter's words.
func isOver(s api.Saga) bool {
	return slices.Contains([]int{api.Completed, api.Compensated, api.Abandoned}, s.Phase)
}

// tries is how many tries a saga's plan has, and planOf that plan.
func tries(d api.Def, s api.Saga) int {
	return planOf(d, s).Retries + 1
}

func planOf(d api.Def, s api.Saga) api.Plan {
	if s.Phase == api.Running {
		return d.Steps[s.Step].Try
	}
	return d.Steps[s.Step].Undo
}

// isGood tells whether a saga is good for a definition, by the chapter's words.
func isGood(d api.Def, s api.Saga) bool {
	_, e := def.Check(d)
	if e != api.OK || s.Def != d.Name || s.ID < 0 || s.Phase < 0 || s.Phase > 5 || s.Step < 0 || s.Step >= len(d.Steps) {
		return false
	}
	if !isTick(s.Start) || !isTick(s.At) || s.Tries < 0 || !isOver(s) && s.Tries > tries(d, s) || s.Skips < 0 || s.Skips > mostSkips {
		return false
	}
	if s.Out && (s.Tries == 0 || s.Phase != api.Running && s.Phase != api.Undoing) {
		return false
	}
	return s.Phase != api.Parked || s.Tries == tries(d, s)
}

// endOf is the tick from which on a saga doesn't go forward.
func endOf(d api.Def, s api.Saga) int {
	if d.Deadline == 0 {
		return end + 1
	}
	return min(s.Start+d.Deadline, end)
}

// waitOf is a plan's n-th wait.
func waitOf(p api.Plan, n int) int {
	wait := p.Base
	for range n {
		wait = min(wait*p.Factor, p.Cap)
	}
	return wait
}

// ends is a saga that is over, or parked, in a phase; starts one that is at a step, without a try.
func ends(s api.Saga, phase int) api.Saga {
	return api.Saga{ID: s.ID, Def: s.Def, Start: s.Start, Phase: phase, Step: s.Step, Tries: s.Tries, At: s.At, Skips: s.Skips}
}

func starts(s api.Saga, phase, step, now int) api.Saga {
	return api.Saga{ID: s.ID, Def: s.Def, Start: s.Start, Phase: phase, Step: step, At: now, Skips: s.Skips}
}

// turnsBack, isDone and fails are a saga by the chapter's words of those names.
func turnsBack(s api.Saga, now int) api.Saga {
	if s.Step == 0 {
		return ends(s, api.Compensated)
	}
	return starts(s, api.Undoing, s.Step-1, now)
}

func isDone(d api.Def, s api.Saga, now int) api.Saga {
	if s.Phase == api.Running {
		if s.Step == len(d.Steps)-1 {
			return ends(s, api.Completed)
		}
		return starts(s, api.Running, s.Step+1, now)
	}
	if s.Step > 0 {
		return starts(s, api.Undoing, s.Step-1, now)
	}
	if s.Skips > 0 {
		return ends(s, api.Abandoned)
	}
	return ends(s, api.Compensated)
}

func fails(d api.Def, s api.Saga, now int) api.Saga {
	if s.Tries < tries(d, s) {
		s.Out, s.At = false, min(now+waitOf(planOf(d, s), s.Tries-1), end)
		return s
	}
	if s.Phase == api.Running {
		return turnsBack(s, now)
	}
	return ends(s, api.Parked)
}

// maySend tells whether a good saga may emit at a tick, by the chapter's words.
func maySend(d api.Def, s api.Saga, now int) bool {
	goes := s.Phase == api.Running && now < endOf(d, s) || s.Phase == api.Undoing
	return goes && !s.Out && now >= s.At && s.Tries < tries(d, s)
}

// isTaken tells whether a reply is accepted, by the chapter's words.
func isTaken(s api.Saga, r api.Reply) bool {
	if s.Phase != api.Running && s.Phase != api.Undoing || r.Undo != (s.Phase == api.Undoing) || r.Step != s.Step {
		return false
	}
	if r.Try < 1 || r.Try > s.Tries {
		return false
	}
	return r.Good || s.Out && r.Try == s.Tries
}

// The calls that have no further argument, and no further answer.
const (
	late = iota
	expire
	cancel
	retry
	skip
	abandon
	callCount
)

// do does a call.
func do(call int, d api.Def, s api.Saga, now int) (api.Saga, api.Errno) {
	return []func(api.Def, api.Saga, int) (api.Saga, api.Errno){Late, Expire, Cancel, Retry, Skip, Abandon}[call](d, s, now)
}

// said is what a call answers, by the chapter's words.
func said(call int, d api.Def, s api.Saga, now int) (api.Saga, api.Errno) {
	switch {
	case !isGood(d, s) || !isTick(now):
		return s, api.ErrArg
	case isOver(s):
		return s, api.ErrOver
	case call == late && s.Out && now >= s.At:
		return fails(d, s, now), api.OK
	case call == expire && s.Phase == api.Running && now >= endOf(d, s):
		return turnsBack(s, now), api.OK
	case call == cancel && s.Phase == api.Running:
		return turnsBack(s, now), api.OK
	case call == retry && s.Phase == api.Parked:
		return starts(s, api.Undoing, s.Step, now), api.OK
	case call == skip && s.Phase == api.Parked:
		s.Skips = min(s.Skips+1, mostSkips)
		return isDone(d, s, now), api.OK
	case call == abandon && s.Phase == api.Parked:
		return ends(s, api.Abandoned), api.OK
	}
	return s, api.ErrState
}

// saidOfReply is what Reply answers, by the chapter's words.
func saidOfReply(d api.Def, s api.Saga, r api.Reply, now int) (api.Saga, api.Errno) {
	switch {
	case !isGood(d, s) || !isTick(now):
		return s, api.ErrArg
	case isOver(s):
		return s, api.ErrOver
	case r.Saga != s.ID:
		return s, api.ErrNone
	case !isTaken(s, r):
		return s, api.ErrLate
	case r.Good:
		return isDone(d, s, now), api.OK
	}
	return fails(d, s, now), api.OK
}

// saidOfEmit is what Emit answers, by the chapter's words.
func saidOfEmit(d api.Def, s api.Saga, now int) (api.Saga, api.Command, api.Errno) {
	switch {
	case !isGood(d, s) || !isTick(now):
		return s, api.Command{}, api.ErrArg
	case isOver(s):
		return s, api.Command{}, api.ErrOver
	case !maySend(d, s, now):
		return s, api.Command{}, api.ErrState
	}
	step := d.Steps[s.Step]
	s.Tries++
	s.Out = true
	s.At = min(now+step.Timeout, end)
	c := api.Command{Saga: s.ID, Step: s.Step, Try: s.Tries, Party: step.Party, Key: fmt.Sprintf("%d/%s/do", s.ID, step.Name)}
	if s.Phase == api.Undoing {
		c.Undo = true
		c.Key = fmt.Sprintf("%d/%s/undo", s.ID, step.Name)
	}
	return s, c, api.OK
}

// emit holds Emit and May against the chapter.
func emit(t *testing.T, d api.Def, s api.Saga, now int) (api.Saga, api.Command, api.Errno) {
	t.Helper()
	want, command, e := saidOfEmit(d, s, now)
	got, c, gotE := Emit(d, s, now)
	if got != want || c != command || gotE != e {
		t.Fatalf("Emit(%+v, %+v, %d) = %+v, %+v, %d, not %+v, %+v, %d", d, s, now, got, c, gotE, want, command, e)
	}
	if May(d, s, now) != (e == api.OK) {
		t.Fatalf("May(%+v, %+v, %d) = %t", d, s, now, e != api.OK)
	}
	return got, c, gotE
}

// reply holds Reply against the chapter.
func reply(t *testing.T, d api.Def, s api.Saga, r api.Reply, now int) (api.Saga, api.Errno) {
	t.Helper()
	want, e := saidOfReply(d, s, r, now)
	got, gotE := Reply(d, s, r, now)
	if got != want || gotE != e {
		t.Fatalf("Reply(%+v, %+v, %+v, %d) = %+v, %d, not %+v, %d", d, s, r, now, got, gotE, want, e)
	}
	return got, gotE
}

// hand holds one of the other calls against the chapter.
func hand(t *testing.T, call int, d api.Def, s api.Saga, now int) (api.Saga, api.Errno) {
	t.Helper()
	want, e := said(call, d, s, now)
	got, gotE := do(call, d, s, now)
	if got != want || gotE != e {
		t.Fatalf("call %d of %+v, %+v, %d: %+v, %d, not %+v, %d", call, d, s, now, got, gotE, want, e)
	}
	return got, gotE
}

// due holds Due against the chapter: the least of the ticks at which one of the three may be done.
func due(t *testing.T, d api.Def, s api.Saga) (int, bool) {
	t.Helper()
	var ticks []int
	if isGood(d, s) {
		if s.Out {
			ticks = append(ticks, s.At)
		}
		if maySend(d, s, s.At) {
			ticks = append(ticks, s.At)
		}
		if s.Phase == api.Running && endOf(d, s) <= end {
			ticks = append(ticks, endOf(d, s))
		}
	}
	want, wantOK := 0, len(ticks) > 0
	if wantOK {
		want = slices.Min(ticks)
	}
	at, ok := Due(d, s)
	if at != want || ok != wantOK {
		t.Fatalf("Due(%+v, %+v) = %d, %t, not %d, %t", d, s, at, ok, want, wantOK)
	}
	return at, ok
}

// replies are replies to a saga and near to it, one of another saga at the end.
func replies(s api.Saga) []api.Reply {
	var l []api.Reply
	for _, try := range []int{-1, 0, 1, s.Tries - 1, s.Tries, s.Tries + 1} {
		for _, step := range []int{s.Step - 1, s.Step, s.Step + 1} {
			if step == s.Step || try == s.Tries {
				l = append(l, api.Reply{Saga: s.ID, Step: step, Try: try, Good: true}, api.Reply{Saga: s.ID, Step: step, Try: try})
				l = append(l, api.Reply{Saga: s.ID, Step: step, Undo: true, Try: try, Good: true}, api.Reply{Saga: s.ID, Step: step, Undo: true, Try: try})
			}
		}
	}
	return append(l, api.Reply{Saga: s.ID + 1, Step: s.Step, Undo: s.Phase == api.Undoing, Try: s.Tries, Good: true})
}

// hold holds every call at a saga and a tick against the chapter, and tells the sagas that came of it.
func hold(t *testing.T, d api.Def, s api.Saga, now int) []api.Saga {
	t.Helper()
	if Good(d, s) != isGood(d, s) || Over(s) != isOver(s) {
		t.Fatalf("Good(%+v, %+v), Over: %t, %t", d, s, Good(d, s), Over(s))
	}
	due(t, d, s)
	var l []api.Saga
	put := func(next api.Saga, e api.Errno) {
		if e == api.OK {
			l = append(l, next)
		}
	}
	next, _, e := emit(t, d, s, now)
	put(next, e)
	for call := range callCount {
		put(hand(t, call, d, s, now))
	}
	for _, r := range replies(s) {
		put(reply(t, d, s, r, now))
	}
	return l
}

// right is a right definition of so many steps, no two of whose numbers are alike.
func right(n int) api.Def {
	d := api.Def{Name: "order", Deadline: 100}
	for i := range n {
		d.Steps = append(d.Steps, api.Step{
			Name:    "s" + strconv.Itoa(i),
			Party:   "p" + strconv.Itoa(i%3),
			Timeout: 5 + i,
			Try:     api.Plan{Retries: 2, Base: 3 + i, Factor: 2, Cap: 50},
			Undo:    api.Plan{Retries: 3, Base: 2 + i, Factor: 3, Cap: 60},
			Prio:    i,
		})
	}
	return d
}

// small is a definition of so many steps with small numbers.
func small(steps, deadline, forth, back int) api.Def {
	d := right(steps)
	d.Deadline = deadline
	for i := range d.Steps {
		d.Steps[i].Timeout = 1 + i
		d.Steps[i].Try = api.Plan{Retries: forth, Base: 1, Factor: 2, Cap: 2}
		d.Steps[i].Undo = api.Plan{Retries: back, Base: 2, Factor: 1, Cap: 3}
	}
	return d
}

// P14.1: each single number of a good saga at its edges and just outside, in each phase.
func TestGood(t *testing.T) {
	d := right(3) // 3 tries of a step, 4 of its undoing
	for phase, most := range []int{3, 4, 4, highest, highest, highest} {
		s := api.Saga{ID: 7, Def: "order", Start: 10, Phase: phase, Step: 1, Tries: min(most, 4), At: 12}
		least := 0
		if phase == api.Parked {
			least = most
		}
		good := func(field string, at *int, from, to int) {
			was := *at
			for _, n := range []int{lowest, -1, 0, 1, 2, 3, 4, 5, 6, mostSkips, mostSkips + 1, 1001, 1 << 32, end, end + 1, highest} {
				*at = n
				if want := from <= n && n <= to; Good(d, s) != want || isGood(d, s) != want {
					t.Errorf("phase %d, %s %d: %t, not %t", phase, field, n, Good(d, s), want)
				}
			}
			*at = was
		}
		good("the number", &s.ID, 0, highest)
		good("Step", &s.Step, 0, 2)
		good("Start", &s.Start, 0, end)
		good("At", &s.At, 0, end)
		good("Tries", &s.Tries, least, most)
		good("Skips", &s.Skips, 0, mostSkips)
	}
}

// P14.1: its phase is one of the six.
func TestGoodPhase(t *testing.T) {
	d := right(1)
	for _, phase := range []int{lowest, -6, -1, 0, 1, 2, 3, 4, 5, 6, 7, 256, 1 << 32, highest} {
		s := api.Saga{Def: "order", Phase: phase}
		if phase == api.Parked {
			s.Tries = 4
		}
		if want := 0 <= phase && phase <= 5; Good(d, s) != want {
			t.Errorf("%d: %t", phase, !want)
		}
	}
}

// P14.1: it is out only with a try, Running or Undoing; Parked only with all tries.
func TestGoodOut(t *testing.T) {
	d := right(2)
	for _, c := range []struct {
		phase, tries int
		out, want    bool
	}{
		{api.Running, 0, false, true}, {api.Running, 0, true, false},
		{api.Running, 1, false, true}, {api.Running, 1, true, true},
		{api.Running, 3, false, true}, {api.Running, 3, true, true},
		{api.Running, 4, false, false}, {api.Running, 4, true, false},
		{api.Undoing, 0, false, true}, {api.Undoing, 0, true, false},
		{api.Undoing, 1, false, true}, {api.Undoing, 1, true, true},
		{api.Undoing, 4, false, true}, {api.Undoing, 4, true, true},
		{api.Undoing, 5, false, false}, {api.Undoing, 5, true, false},
		{api.Parked, 0, false, false}, {api.Parked, 3, false, false},
		{api.Parked, 4, false, true}, {api.Parked, 4, true, false}, {api.Parked, 5, false, false},
		{api.Completed, 0, false, true}, {api.Completed, 0, true, false}, {api.Completed, 1, true, false},
		{api.Compensated, 9, false, true}, {api.Compensated, 1, true, false},
		{api.Abandoned, highest, false, true}, {api.Abandoned, 4, true, false},
		{-1, 1, false, false}, {-1, 1, true, false}, {6, 1, false, false}, {6, 1, true, false},
	} {
		for step := range 2 {
			s := api.Saga{ID: 1, Def: "order", Phase: c.phase, Step: step, Tries: c.tries, Out: c.out}
			if Good(d, s) != c.want || isGood(d, s) != c.want {
				t.Errorf("%+v: %t", c, Good(d, s))
			}
		}
	}
}

// P14.1: all tries are those of its own step's plan, in its own direction.
func TestGoodPlan(t *testing.T) {
	d := right(3)
	for i := range d.Steps {
		d.Steps[i].Try.Retries, d.Steps[i].Undo.Retries = []int{0, 1000, 5}[i], []int{7, 0, 1000}[i]
	}
	for step := range 3 {
		for n := range 1004 {
			forth, back := d.Steps[step].Try.Retries+1, d.Steps[step].Undo.Retries+1
			s := api.Saga{Def: "order", Step: step, Tries: n}
			undoing, parked := s, s
			undoing.Phase, parked.Phase = api.Undoing, api.Parked
			if Good(d, s) != (n <= forth) || Good(d, undoing) != (n <= back) || Good(d, parked) != (n == back) {
				t.Errorf("step %d, %d tries: %t, %t, %t", step, n, Good(d, s), Good(d, undoing), Good(d, parked))
			}
		}
	}
}

// P14.1: the definition is right, and its name is the saga's.
func TestGoodDefinition(t *testing.T) {
	s := Begin(right(2), 1, 5)
	for _, n := range []int{1, 2, mostSteps} {
		if !Good(right(n), s) {
			t.Error(n)
		}
	}
	for i, spoil := range []func(d *api.Def){
		func(d *api.Def) { d.Name = "orders" },
		func(d *api.Def) { d.Name = "" },
		func(d *api.Def) { d.Deadline = -1 },
		func(d *api.Def) { d.Deadline = end + 1 },
		func(d *api.Def) { d.Steps = nil },
		func(d *api.Def) { *d = right(mostSteps + 1) },
		func(d *api.Def) { d.Steps[1].Name = "1" },
		func(d *api.Def) { d.Steps[1].Party = "" },
		func(d *api.Def) { d.Steps[1].Name = d.Steps[0].Name },
		func(d *api.Def) { d.Steps[1].Timeout = 0 },
		func(d *api.Def) { d.Steps[1].Timeout = end + 1 },
		func(d *api.Def) { d.Steps[1].Prio = 256 },
		func(d *api.Def) { d.Steps[1].Try.Base = 0 },
		func(d *api.Def) { d.Steps[1].Undo.Retries = 1001 },
	} {
		d := right(2)
		spoil(&d)
		if Good(d, s) {
			t.Error(i)
		}
		for _, now := range []int{-1, 5} {
			if hold(t, d, s, now) != nil {
				t.Error(i, now)
			}
		}
	}
	for _, name := range []string{"", "Order", "orde", "orders", "order\x00"} {
		s.Def = name
		if Good(right(2), s) {
			t.Error(name)
		}
	}
	empty := api.Def{Steps: right(1).Steps}
	if Good(empty, Begin(empty, 0, 0)) {
		t.Error("the empty text is no name")
	}
}

// P14.1: a saga as it begins, of now the nearest tick.
func TestBegin(t *testing.T) {
	for _, d := range []api.Def{{}, {Name: "a"}, right(1), right(mostSteps), right(mostSteps + 1)} {
		for _, id := range []int{lowest, -1, 0, 1, 1 << 40, highest} {
			for now, at := range map[int]int{lowest: 0, -end: 0, -1: 0, 0: 0, 1: 1, 77: 77, end - 1: end - 1, end: end, end + 1: end, highest: end} {
				s := Begin(d, id, now)
				if s != (api.Saga{ID: id, Def: d.Name, Start: at, Phase: api.Running, Step: 0, Tries: 0, Out: false, At: at, Skips: 0}) {
					t.Errorf("Begin(%s, %d, %d) = %+v", d.Name, id, now, s)
				}
				_, e := def.Check(d)
				if Good(d, s) != (e == api.OK && id >= 0) || Over(s) {
					t.Errorf("Begin(%s, %d, %d): %t, %t", d.Name, id, now, Good(d, s), Over(s))
				}
			}
		}
	}
}

// P14.1: over are three phases, whatever else the saga is.
func TestOver(t *testing.T) {
	for _, phase := range []int{lowest, -3, -1, 0, 1, 2, 3, 4, 5, 6, 7, 259, 3 + 1<<32, highest} {
		want := phase == 3 || phase == 4 || phase == 5
		if Over(api.Saga{Phase: phase}) != want || Over(api.Saga{ID: -1, Phase: phase, Step: 99, Tries: -4, Out: true, At: -1}) != want {
			t.Error(phase)
		}
	}
	if [6]int{api.Running, api.Undoing, api.Parked, api.Completed, api.Compensated, api.Abandoned} != [6]int{0, 1, 2, 3, 4, 5} {
		t.Error("the phases' numbers")
	}
}

// P14.2: ErrArg ahead of ErrOver, that ahead of all else; beside an error the saga as it was, and no command.
func TestRefusals(t *testing.T) {
	d := right(2)
	for phase := range 6 {
		good := api.Saga{ID: 4, Def: "order", Start: 1, Phase: phase, Step: 1, Tries: 3, At: 9, Skips: 2}
		if phase == api.Parked {
			good.Tries = 4
		}
		bad := good
		bad.Skips = 33
		for _, c := range []struct {
			s   api.Saga
			now int
			e   api.Errno // 0: as the call has it
		}{
			{good, 9, api.OK}, {good, 0, api.OK}, {good, end, api.OK},
			{good, -1, api.ErrArg}, {good, lowest, api.ErrArg}, {good, end + 1, api.ErrArg}, {good, highest, api.ErrArg},
			{bad, 9, api.ErrArg}, {bad, -1, api.ErrArg}, {api.Saga{Phase: phase}, 9, api.ErrArg},
		} {
			if c.e == api.OK && isOver(good) {
				c.e = api.ErrOver
			}
			hold(t, d, c.s, c.now)
			if c.e == api.OK {
				continue
			}
			if s, command, e := Emit(d, c.s, c.now); s != c.s || command != (api.Command{}) || e != c.e || May(d, c.s, c.now) {
				t.Errorf("Emit of phase %d at %d: %+v, %+v, %d", phase, c.now, s, command, e)
			}
			for call := range callCount {
				if s, e := do(call, d, c.s, c.now); s != c.s || e != c.e {
					t.Errorf("call %d of phase %d at %d: %+v, %d", call, phase, c.now, s, e)
				}
			}
			for _, r := range replies(c.s) {
				if s, e := Reply(d, c.s, r, c.now); s != c.s || e != c.e {
					t.Errorf("Reply of phase %d at %d: %+v, %d", phase, c.now, s, e)
				}
			}
		}
	}
}

// P14.2: may it emit: from At on, ahead of its end, with tries left, nothing out, forward and back alone.
func TestMay(t *testing.T) {
	d := right(2) // its end is 110
	for _, c := range []struct {
		phase, tries int
		out          bool
		at, now      int
		want         bool
	}{
		{api.Running, 0, false, 20, 19, false}, {api.Running, 0, false, 20, 20, true}, {api.Running, 0, false, 20, 21, true},
		{api.Running, 2, false, 20, 19, false}, {api.Running, 2, false, 20, 20, true}, {api.Running, 2, false, 20, 109, true},
		{api.Running, 0, false, 20, 110, false}, {api.Running, 0, false, 20, 111, false}, {api.Running, 0, false, 20, end, false},
		{api.Running, 0, false, 109, 109, true}, {api.Running, 0, false, 110, 110, false}, {api.Running, 0, false, 110, 109, false},
		{api.Running, 3, false, 20, 20, false}, {api.Running, 3, false, 20, 50, false},
		{api.Running, 1, true, 20, 19, false}, {api.Running, 1, true, 20, 20, false}, {api.Running, 1, true, 20, 30, false},
		{api.Undoing, 0, false, 20, 19, false}, {api.Undoing, 0, false, 20, 20, true}, {api.Undoing, 0, false, 20, 110, true},
		{api.Undoing, 3, false, 20, end, true}, {api.Undoing, 4, false, 20, 20, false}, {api.Undoing, 1, true, 20, 30, false},
		{api.Undoing, 0, false, end, end - 1, false}, {api.Undoing, 0, false, end, end, true},
		{api.Parked, 4, false, 20, 20, false}, {api.Parked, 4, false, 20, 110, false},
		{api.Completed, 0, false, 20, 20, false}, {api.Compensated, 0, false, 20, 20, false}, {api.Abandoned, 0, false, 20, 20, false},
	} {
		for step := range 2 {
			s := api.Saga{ID: 3, Def: "order", Start: 10, Phase: c.phase, Step: step, Tries: c.tries, Out: c.out, At: c.at}
			if May(d, s, c.now) != c.want {
				t.Errorf("%+v: %t", c, !c.want)
			}
			hold(t, d, s, c.now)
		}
	}
	d.Deadline = 0
	s := api.Saga{ID: 3, Def: "order", Start: 10, At: 12}
	if !May(d, s, end) || May(d, s, end+1) || May(d, s, 11) {
		t.Error("without a deadline")
	}
	d.Deadline = end
	if !May(d, s, end-1) || May(d, s, end) {
		t.Error("with the greatest deadline")
	}
}

// P14.2: the saga and the command of a try that is emitted, at each step, forward and back.
func TestEmit(t *testing.T) {
	d := right(mostSteps)
	for step := range mostSteps {
		for n := range 4 {
			s := api.Saga{ID: 12, Def: "order", Start: 10, Phase: api.Undoing, Step: step, Tries: n, At: 15, Skips: 1}
			name, party := "s"+strconv.Itoa(step), "p"+strconv.Itoa(step%3)
			next, c, e := emit(t, d, s, 20)
			if e != api.OK || c != (api.Command{Saga: 12, Step: step, Undo: true, Try: n + 1, Party: party, Key: "12/" + name + "/undo"}) {
				t.Errorf("back: %+v, %d", c, e)
			}
			if next != (api.Saga{ID: 12, Def: "order", Start: 10, Phase: api.Undoing, Step: step, Tries: n + 1, Out: true, At: 25 + step, Skips: 1}) {
				t.Errorf("back: %+v", next)
			}
			s.Phase = api.Running
			next, c, e = emit(t, d, s, 20)
			if n == 3 {
				if next != s || c != (api.Command{}) || e != api.ErrState {
					t.Errorf("all tries are made: %+v, %+v, %d", next, c, e)
				}
				continue
			}
			if e != api.OK || c != (api.Command{Saga: 12, Step: step, Try: n + 1, Party: party, Key: "12/" + name + "/do"}) {
				t.Errorf("forth: %+v, %d", c, e)
			}
			if next != (api.Saga{ID: 12, Def: "order", Start: 10, Phase: api.Running, Step: step, Tries: n + 1, Out: true, At: 25 + step, Skips: 1}) {
				t.Errorf("forth: %+v", next)
			}
		}
	}
	for _, id := range []int{0, 999_999_999_999_999_999, highest} {
		if _, c, _ := emit(t, d, Begin(d, id, 3), 3); c.Saga != id || c.Key != strconv.Itoa(id)+"/s0/do" {
			t.Errorf("%+v", c)
		}
	}
}

// P14.2: At never runs over.
func TestEmitNearTheEnd(t *testing.T) {
	for _, timeout := range []int{1, 2, 5, end - 1, end} {
		d := small(1, 0, 1, 1)
		d.Steps[0].Timeout = timeout
		d.Steps[0].Try = api.Plan{Retries: 1, Base: 2, Factor: 16, Cap: end}
		for _, now := range []int{0, 1, end - 6, end - 5, end - 4, end - 2, end - 1, end} {
			s, _, e := emit(t, d, Begin(d, 1, now), now)
			if e != api.OK || s.At != min(now+timeout, end) || !Good(d, s) {
				t.Errorf("%d from %d on: %+v, %d", timeout, now, s, e)
			}
			next, e := hand(t, late, d, s, s.At)
			if e != api.OK || next.At != min(s.At+2, end) || !Good(d, next) {
				t.Errorf("%d from %d on: %+v, %d", timeout, now, next, e)
			}
			hold(t, d, next, end)
		}
	}
}

// out is a saga of right(3) whose last try is out, and 20 its At.
func out(phase, step, tries int) api.Saga {
	return api.Saga{ID: 6, Def: "order", Start: 10, Phase: phase, Step: step, Tries: tries, Out: true, At: 20}
}

// P14.2: which replies are accepted.
func TestReply(t *testing.T) {
	d := right(3)
	for _, phase := range []int{api.Running, api.Undoing} {
		undo := phase == api.Undoing
		for _, isOut := range []bool{true, false} {
			s := out(phase, 1, 2)
			s.Out = isOut
			for _, c := range []struct {
				r api.Reply
				e api.Errno
			}{
				{api.Reply{Saga: 6, Step: 1, Undo: undo, Try: 1, Good: true}, api.OK},
				{api.Reply{Saga: 6, Step: 1, Undo: undo, Try: 2, Good: true}, api.OK},
				{api.Reply{Saga: 6, Step: 1, Undo: undo, Try: 3, Good: true}, api.ErrLate},
				{api.Reply{Saga: 6, Step: 1, Undo: undo, Try: 0, Good: true}, api.ErrLate},
				{api.Reply{Saga: 6, Step: 1, Undo: undo, Try: -1, Good: true}, api.ErrLate},
				{api.Reply{Saga: 6, Step: 1, Undo: undo, Try: lowest, Good: true}, api.ErrLate},
				{api.Reply{Saga: 6, Step: 1, Undo: undo, Try: highest, Good: true}, api.ErrLate},
				{api.Reply{Saga: 6, Step: 1, Undo: !undo, Try: 2, Good: true}, api.ErrLate},
				{api.Reply{Saga: 6, Step: 0, Undo: undo, Try: 2, Good: true}, api.ErrLate},
				{api.Reply{Saga: 6, Step: 2, Undo: undo, Try: 2, Good: true}, api.ErrLate},
				{api.Reply{Saga: 6, Step: -1, Undo: undo, Try: 2, Good: true}, api.ErrLate},
				{api.Reply{Saga: 6, Step: highest, Undo: undo, Try: 2, Good: true}, api.ErrLate},
				{api.Reply{Saga: 6, Step: 1, Undo: undo, Try: 1}, api.ErrLate},
				{api.Reply{Saga: 6, Step: 1, Undo: undo, Try: 3}, api.ErrLate},
				{api.Reply{Saga: 6, Step: 1, Undo: undo, Try: 0}, api.ErrLate},
				{api.Reply{Saga: 6, Step: 0, Undo: undo, Try: 2}, api.ErrLate},
				{api.Reply{Saga: 6, Step: 1, Undo: !undo, Try: 2}, api.ErrLate},
				{api.Reply{Saga: 7, Step: 1, Undo: undo, Try: 2, Good: true}, api.ErrNone},
				{api.Reply{Saga: 5, Step: 1, Undo: undo, Try: 2}, api.ErrNone},
				{api.Reply{Saga: -6, Step: 0, Undo: !undo, Try: -2}, api.ErrNone},
			} {
				for _, now := range []int{0, 15, 20, 30, 200, end} {
					next, e := reply(t, d, s, c.r, now)
					if e != c.e || e != api.OK && next != s {
						t.Errorf("%+v of %+v: %+v, %d, not %d", c.r, s, next, e, c.e)
					}
					if step := map[bool]int{false: 2, true: 0}[undo]; e == api.OK && (next.Step != step || next.Phase != phase || next.Tries != 0 || next.Out || next.At != now) {
						t.Errorf("%+v of %+v: %+v", c.r, s, next)
					}
				}
			}
			next, e := reply(t, d, s, api.Reply{Saga: 6, Step: 1, Undo: undo, Try: 2}, 15)
			if isOut && (e != api.OK || next.Out || next.Tries != 2 || next.Phase != phase || next.At != 15+map[bool]int{false: 8, true: 9}[undo]) {
				t.Errorf("the last one fails: %+v, %d", next, e)
			}
			if !isOut && (e != api.ErrLate || next != s) {
				t.Errorf("the last one isn't out: %+v, %d", next, e)
			}
		}
	}
}

// P14.2: replies to what is parked aren't accepted, nor to what has no try.
func TestReplyToNoTry(t *testing.T) {
	d := right(2)
	parked := api.Saga{ID: 6, Def: "order", Phase: api.Parked, Step: 1, Tries: 4}
	for _, s := range []api.Saga{parked, Begin(d, 6, 0), {ID: 6, Def: "order", Phase: api.Undoing}} {
		for _, undo := range []bool{false, true} {
			for try := range 6 {
				for _, good := range []bool{false, true} {
					r := api.Reply{Saga: 6, Step: s.Step, Undo: undo, Try: try, Good: good}
					if next, e := reply(t, d, s, r, 5); next != s || e != api.ErrLate {
						t.Errorf("%+v of %+v: %+v, %d", r, s, next, e)
					}
					r.Saga = 8
					if next, e := reply(t, d, s, r, 5); next != s || e != api.ErrNone {
						t.Errorf("%+v of %+v: %+v, %d", r, s, next, e)
					}
				}
			}
		}
	}
}

// P14.2: a try is late from At on, if it is out.
func TestLate(t *testing.T) {
	d := right(3)
	for _, phase := range []int{api.Running, api.Undoing} {
		s := out(phase, 1, 1)
		for now, e := range map[int]api.Errno{0: api.ErrState, 19: api.ErrState, 20: api.OK, 21: api.OK, 110: api.OK, end: api.OK} {
			next, got := hand(t, late, d, s, now)
			if got != e || e != api.OK && next != s || e == api.OK && (next.Out || next.Tries != 1) {
				t.Errorf("at %d: %+v, %d", now, next, got)
			}
			still := s
			still.Out = false
			if next, got := hand(t, late, d, still, now); got != api.ErrState || next != still {
				t.Errorf("nothing is out at %d: %+v, %d", now, next, got)
			}
		}
	}
	parked := api.Saga{ID: 6, Def: "order", Phase: api.Parked, Tries: 4}
	if next, e := hand(t, late, d, parked, 5); e != api.ErrState || next != parked {
		t.Error(next, e)
	}
}

// P14.2: what is Running turns back from its end on, whether a try is out or not.
func TestExpire(t *testing.T) {
	d := right(3)
	forth := out(api.Running, 2, 1)
	still := forth
	still.Out = false
	for _, s := range []api.Saga{forth, still, {ID: 6, Def: "order", Start: 10, Step: 2, At: end}} {
		for now, e := range map[int]api.Errno{0: api.ErrState, 109: api.ErrState, 110: api.OK, 111: api.OK, end: api.OK} {
			next, got := hand(t, expire, d, s, now)
			if got != e || e != api.OK && next != s {
				t.Errorf("at %d: %+v, %d", now, next, got)
			}
			if e == api.OK && next != (api.Saga{ID: 6, Def: "order", Start: 10, Phase: api.Undoing, Step: 1, At: now}) {
				t.Errorf("at %d: %+v", now, next)
			}
		}
	}
	for _, s := range []api.Saga{out(api.Undoing, 2, 1), {ID: 6, Def: "order", Phase: api.Undoing}, {ID: 6, Def: "order", Phase: api.Parked, Tries: 4}} {
		if next, e := hand(t, expire, d, s, 500); e != api.ErrState || next != s {
			t.Errorf("%+v, %d", next, e)
		}
	}
	d.Deadline = 0
	for _, now := range []int{0, 110, end - 1, end} {
		if next, e := hand(t, expire, d, forth, now); e != api.ErrState || next != forth {
			t.Errorf("without a deadline: %+v, %d", next, e)
		}
	}
	d.Deadline = end
	if _, e := hand(t, expire, d, forth, end-1); e != api.ErrState {
		t.Error(e)
	}
	if _, e := hand(t, expire, d, forth, end); e != api.OK {
		t.Error(e)
	}
}

// P14.2: what is Running turns back by a cancel at each tick, from step 0 to its compensation.
func TestCancel(t *testing.T) {
	d := right(3)
	for step := range 3 {
		for _, s := range []api.Saga{out(api.Running, step, 1), out(api.Running, step, 3), {ID: 6, Def: "order", Start: 10, Step: step, At: 40, Skips: 3}} {
			for _, now := range []int{0, 9, 20, 110, end} {
				next, e := hand(t, cancel, d, s, now)
				want := api.Saga{ID: 6, Def: "order", Start: 10, Phase: api.Undoing, Step: step - 1, At: now, Skips: s.Skips}
				if step == 0 {
					want = s
					want.Phase, want.Out = api.Compensated, false
				}
				if e != api.OK || next != want {
					t.Errorf("%+v, %d, not %+v", next, e, want)
				}
			}
		}
		for _, s := range []api.Saga{out(api.Undoing, step, 1), {ID: 6, Def: "order", Phase: api.Undoing, Step: step}, {ID: 6, Def: "order", Phase: api.Parked, Step: step, Tries: 4}} {
			if next, e := hand(t, cancel, d, s, 20); e != api.ErrState || next != s {
				t.Errorf("%+v, %d", next, e)
			}
		}
	}
}

// P14.2: a try that fails with tries left waits, by its number.
func TestFailsWithTriesLeft(t *testing.T) {
	d := right(2)
	d.Steps[1].Try = api.Plan{Retries: 6, Base: 3, Factor: 2, Cap: 30}
	d.Steps[1].Undo = api.Plan{Retries: 1000, Base: 1, Factor: 16, Cap: end}
	waits := map[int][]int{
		api.Running: {3, 6, 12, 24, 30, 30},
		api.Undoing: {1, 16, 256, 4096, 65536, 1 << 20, 1 << 24, 1 << 28, 1 << 32, 1 << 36, 1 << 40, 1 << 40},
	}
	for phase, l := range waits {
		for i, wait := range l {
			s := out(phase, 1, i+1)
			for _, now := range []int{20, 33, end - 1<<36, end} {
				want := s
				want.Out, want.At = false, min(now+wait, end)
				if next, e := hand(t, late, d, s, now); e != api.OK || next != want {
					t.Errorf("try %d is late at %d: %+v, %d, not %+v", i+1, now, next, e, want)
				}
				r := api.Reply{Saga: 6, Step: 1, Undo: phase == api.Undoing, Try: i + 1}
				if next, e := reply(t, d, s, r, now); e != api.OK || next != want {
					t.Errorf("try %d is refused at %d: %+v, %d, not %+v", i+1, now, next, e, want)
				}
			}
		}
	}
	s := out(api.Undoing, 1, 1000)
	if next, _ := hand(t, late, d, s, 20); next.At != end || next.Out || next.Phase != api.Undoing {
		t.Errorf("%+v", next)
	}
}

// P14.2: a try that fails with none left turns a saga back, or parks it.
func TestFailsWithoutTriesLeft(t *testing.T) {
	d := right(3)
	for step := range 3 {
		for _, way := range []string{"late", "refused"} {
			fail := func(s api.Saga) api.Saga {
				next, e := hand(t, late, d, s, 25)
				if way == "refused" {
					next, e = reply(t, d, s, api.Reply{Saga: 6, Step: step, Undo: s.Phase == api.Undoing, Try: s.Tries}, 25)
				}
				if e != api.OK {
					t.Errorf("%s: %d", way, e)
				}
				return next
			}
			want := api.Saga{ID: 6, Def: "order", Start: 10, Phase: api.Undoing, Step: step - 1, At: 25}
			if step == 0 {
				want = api.Saga{ID: 6, Def: "order", Start: 10, Phase: api.Compensated, Tries: 3, At: 20}
			}
			if got := fail(out(api.Running, step, 3)); got != want {
				t.Errorf("%s at step %d: %+v, not %+v", way, step, got, want)
			}
			want = api.Saga{ID: 6, Def: "order", Start: 10, Phase: api.Parked, Step: step, Tries: 4, At: 20}
			if got := fail(out(api.Undoing, step, 4)); got != want {
				t.Errorf("%s at step %d: %+v, not %+v", way, step, got, want)
			}
		}
	}
	none := small(1, 0, 0, 0)
	if s, e := hand(t, late, none, out(api.Running, 0, 1), 20); s.Phase != api.Compensated || e != api.OK {
		t.Error(s, e)
	}
	if s, e := hand(t, late, none, out(api.Undoing, 0, 1), 20); s.Phase != api.Parked || e != api.OK {
		t.Error(s, e)
	}
}

// P14.2: a step that is done: the next one, or the one ahead, or it is over, whether its last try is out or not.
func TestDone(t *testing.T) {
	for _, steps := range []int{1, 2, mostSteps} {
		d := right(steps)
		for step := range steps {
			for _, isOut := range []bool{true, false} {
				s := out(api.Running, step, 2)
				s.Out = isOut
				want := api.Saga{ID: 6, Def: "order", Start: 10, Phase: api.Running, Step: step + 1, At: 18}
				if step == steps-1 {
					want = api.Saga{ID: 6, Def: "order", Start: 10, Phase: api.Completed, Step: step, Tries: 2, At: 20}
				}
				if got, e := reply(t, d, s, api.Reply{Saga: 6, Step: step, Try: 1, Good: true}, 18); got != want || e != api.OK {
					t.Errorf("forth: %+v, %d, not %+v", got, e, want)
				}
				s.Phase = api.Undoing
				want = api.Saga{ID: 6, Def: "order", Start: 10, Phase: api.Undoing, Step: step - 1, At: 18}
				if step == 0 {
					want = api.Saga{ID: 6, Def: "order", Start: 10, Phase: api.Compensated, Tries: 2, At: 20}
				}
				if got, e := reply(t, d, s, api.Reply{Saga: 6, Step: step, Undo: true, Try: 2, Good: true}, 18); got != want || e != api.OK {
					t.Errorf("back: %+v, %d, not %+v", got, e, want)
				}
			}
		}
	}
}

// P14.3: what an operator does with what is parked.
func TestOperator(t *testing.T) {
	d := right(3)
	for step := range 3 {
		for skips, more := range map[int]int{0: 1, 1: 2, 31: 32, 32: 32} {
			s := api.Saga{ID: 6, Def: "order", Start: 10, Phase: api.Parked, Step: step, Tries: 4, At: 20, Skips: skips}
			for _, now := range []int{0, 19, 20, 300, end} {
				want := api.Saga{ID: 6, Def: "order", Start: 10, Phase: api.Undoing, Step: step, At: now, Skips: skips}
				if got, e := hand(t, retry, d, s, now); got != want || e != api.OK || !May(d, got, now) {
					t.Errorf("Retry: %+v, %d", got, e)
				}
				want = api.Saga{ID: 6, Def: "order", Start: 10, Phase: api.Abandoned, Step: step, Tries: 4, At: 20, Skips: skips}
				if got, e := hand(t, abandon, d, s, now); got != want || e != api.OK {
					t.Errorf("Abandon: %+v, %d", got, e)
				}
				want.Skips = more
				if step > 0 {
					want = api.Saga{ID: 6, Def: "order", Start: 10, Phase: api.Undoing, Step: step - 1, At: now, Skips: more}
				}
				if got, e := hand(t, skip, d, s, now); got != want || e != api.OK {
					t.Errorf("Skip: %+v, %d", got, e)
				}
			}
		}
	}
}

// P14.3: an operator has nothing to do with what isn't parked.
func TestOperatorRefused(t *testing.T) {
	d := right(2)
	for _, call := range []int{retry, skip, abandon} {
		for step := range 2 {
			for _, phase := range []int{api.Running, api.Undoing} {
				all := out(phase, step, 3)
				still := all
				still.Out = false
				for _, s := range []api.Saga{all, still, {ID: 6, Def: "order", Phase: phase, Step: step}} {
					if next, e := hand(t, call, d, s, 30); next != s || e != api.ErrState {
						t.Errorf("call %d: %+v, %d", call, next, e)
					}
				}
			}
			for phase := api.Completed; phase <= api.Abandoned; phase++ {
				s := api.Saga{ID: 6, Def: "order", Phase: phase, Step: step, Tries: 4}
				if next, e := hand(t, call, d, s, 30); next != s || e != api.ErrOver {
					t.Errorf("call %d: %+v, %d", call, next, e)
				}
			}
		}
	}
}

// P14.3: what was skipped once is abandoned, when the rest of it is undone; what wasn't is compensated.
func TestUndoneBehindASkip(t *testing.T) {
	d := small(4, 0, 0, 0)
	for skipped := range 5 {
		s := api.Saga{ID: 1, Def: "order", Phase: api.Undoing, Step: 3}
		for step := 3; step >= 0; step-- {
			if s.Phase != api.Undoing || s.Step != step {
				t.Fatalf("at step %d: %+v", step, s)
			}
			s, _, _ = emit(t, d, s, 50)
			if step == skipped {
				s, _ = hand(t, late, d, s, 60)
				s, _ = hand(t, skip, d, s, 50)
				continue
			}
			s, _ = reply(t, d, s, api.Reply{Saga: 1, Step: step, Undo: true, Try: 1, Good: true}, 50)
		}
		want := api.Abandoned
		if skipped == 4 {
			want = api.Compensated
		}
		if s.Phase != want || s.Step != 0 || s.Skips > 1 {
			t.Errorf("step %d skipped: %+v", skipped, s)
		}
	}
}

// P14.4: the least tick at which one of the three may be done.
func TestDue(t *testing.T) {
	d := right(2) // its end is 110
	free := right(2)
	free.Deadline = 0
	for i, c := range []struct {
		d            api.Def
		phase, tries int
		out          bool
		at           int
		due          int
		ok           bool
	}{
		{d, api.Running, 0, false, 20, 20, true}, {d, api.Running, 0, false, 109, 109, true},
		{d, api.Running, 0, false, 110, 110, true}, {d, api.Running, 0, false, 111, 110, true}, {d, api.Running, 2, false, end, 110, true},
		{d, api.Running, 3, false, 20, 110, true}, {d, api.Running, 3, true, 20, 20, true}, {d, api.Running, 3, true, 109, 109, true},
		{d, api.Running, 1, true, 110, 110, true}, {d, api.Running, 1, true, 111, 110, true}, {d, api.Running, 1, true, end, 110, true},
		{free, api.Running, 0, false, 20, 20, true}, {free, api.Running, 0, false, end, end, true}, {free, api.Running, 1, true, 500, 500, true},
		{free, api.Running, 3, false, 20, 0, false}, {free, api.Running, 3, true, end, end, true}, {free, api.Running, 0, false, 0, 0, true},
		{d, api.Undoing, 0, false, 20, 20, true}, {d, api.Undoing, 0, false, 111, 111, true}, {d, api.Undoing, 1, true, 300, 300, true},
		{d, api.Undoing, 3, false, end, end, true}, {d, api.Undoing, 4, true, 20, 20, true}, {d, api.Undoing, 4, false, 20, 0, false},
		{d, api.Parked, 4, false, 20, 0, false}, {free, api.Parked, 4, false, 20, 0, false},
		{d, api.Completed, 1, false, 20, 0, false}, {d, api.Compensated, 0, false, 20, 0, false}, {free, api.Abandoned, 0, false, 20, 0, false},
		{d, api.Parked, 3, false, 20, 0, false}, {d, api.Running, 0, true, 20, 0, false}, {d, 6, 0, false, 20, 0, false}, {d, -1, 0, false, 20, 0, false},
		{d, api.Running, 0, false, -1, 0, false}, {d, api.Running, 4, false, 20, 0, false}, {free, api.Running, 0, false, end + 1, 0, false},
	} {
		for step := range 2 {
			s := api.Saga{ID: 3, Def: "order", Start: 10, Phase: c.phase, Step: step, Tries: c.tries, Out: c.out, At: c.at}
			if at, ok := due(t, c.d, s); at != c.due || ok != c.ok {
				t.Errorf("%d: %d, %t, not %d, %t", i, at, ok, c.due, c.ok)
			}
			s.Def = "other"
			if at, ok := due(t, c.d, s); at != 0 || ok {
				t.Errorf("%d: %d, %t of another definition", i, at, ok)
			}
		}
	}
	last := api.Saga{ID: 3, Def: "order", Start: end - 5, Phase: api.Running, At: end}
	if at, ok := due(t, d, last); at != end || !ok {
		t.Errorf("its end is the end of time: %d, %t", at, ok)
	}
	last.Start = end - 100
	if at, ok := due(t, d, last); at != end || !ok {
		t.Errorf("its end is the end of time: %d, %t", at, ok)
	}
}

// anything tells whether one of the three may be done at a tick.
func anything(d api.Def, s api.Saga, now int) bool {
	_, wasLate := Late(d, s, now)
	_, expired := Expire(d, s, now)
	_, _, emitted := Emit(d, s, now)
	return wasLate == api.OK || expired == api.OK || emitted == api.OK
}

// P14.4: ahead of that tick none of Late, Expire and Emit may be done, at it one may; without one never.
func TestNothingAheadOfDue(t *testing.T) {
	for _, deadline := range []int{0, 1, 7, end} {
		for _, forth := range []int{0, 2} {
			d := small(2, deadline, forth, 1)
			count := 0
			grid(d, func(s api.Saga) {
				at, ok := Due(d, s)
				for _, now := range []int{-1, 0, 1, 2, 3, 4, 5, 6, 7, 8, 9, 10, 11, 12, 13, 20, end - 1, end, end + 1} {
					switch can := anything(d, s, now); {
					case can && (!ok || now < at):
						t.Fatalf("%+v: %d, %t, at %d something may be done", s, at, ok, now)
					case !can && ok && now == at:
						t.Fatalf("%+v: %d, at which nothing may be done", s, at)
					}
				}
				if ok && (!anything(d, s, at) || anything(d, s, at-1)) {
					t.Fatalf("%+v: %d", s, at)
				}
				if ok {
					count++
				}
			})
			if count == 0 {
				t.Error("none is due")
			}
		}
	}
}

// grid hands out sagas with each number at its edges and just outside.
func grid(d api.Def, with func(s api.Saga)) {
	s := api.Saga{ID: 9, Def: d.Name, Start: 4}
	counts := []int{-1, 0, 1, 2, 3, 4, 99}
	for s.Phase = -1; s.Phase <= 6; s.Phase++ {
		for s.Step = -1; s.Step <= len(d.Steps); s.Step++ {
			for _, s.Tries = range counts {
				for _, s.Skips = range []int{0, 1, mostSkips, mostSkips + 1} {
					for _, s.At = range []int{-1, 0, 5, 11, 12, end} {
						s.Out = false
						with(s)
						s.Out = true
						with(s)
					}
				}
			}
		}
	}
}

// P14.2, P14.3, P14.4: every call at sagas with all numbers at their edges, reached or not.
func TestAllSagas(t *testing.T) {
	for i, d := range []api.Def{small(1, 0, 0, 1), small(2, 7, 1, 2)} {
		count := 0
		grid(d, func(s api.Saga) {
			if !Good(d, s) && s.At != 5 {
				hold(t, d, s, 5)
				return
			}
			for _, now := range []int{-1, s.At - 1, s.At, s.At + 1, 10, 11, end, end + 1} {
				count += len(hold(t, d, s, now))
			}
		})
		if count == 0 {
			t.Error(i)
		}
	}
}

// reached goes through all sagas that come of one by any calls at ticks below a bound.
func reached(t *testing.T, d api.Def, bound int) map[api.Saga]int {
	seen := map[api.Saga]int{}
	var open []api.Saga
	for now := range 3 {
		open = append(open, Begin(d, 5, now))
	}
	for len(open) > 0 {
		s := open[len(open)-1]
		open = open[:len(open)-1]
		if seen[s] > 0 {
			continue
		}
		seen[s] = 1
		if !Good(d, s) {
			t.Fatalf("%+v of %+v isn't good", s, d)
		}
		for now := range bound {
			next := hold(t, d, s, now)
			if Over(s) && len(next) > 0 {
				t.Fatalf("%+v is over, and becomes %+v", s, next)
			}
			if s.Phase == api.Parked && len(next) != 3 {
				t.Fatalf("%+v is parked, and becomes %+v", s, next)
			}
			seen[s] += len(next)
			open = append(open, next...)
		}
	}
	return seen
}

// P14.5: all that comes of a saga as it begins, by all calls at small ticks, is good; what is over stays; what is parked changes by an operator alone.
func TestAllRows(t *testing.T) {
	for _, c := range []struct{ steps, deadline, forth, back, bound int }{
		{1, 0, 1, 1, 5}, {1, 3, 0, 0, 6}, {2, 4, 1, 1, 7}, {3, 0, 0, 1, 4}, {3, 2, 1, 0, 4},
	} {
		d := small(c.steps, c.deadline, c.forth, c.back)
		phases := map[int]int{}
		for s := range reached(t, d, c.bound) {
			phases[s.Phase]++
			if s.Tries > max(c.forth, c.back)+1 || s.Phase == api.Running && s.Tries > c.forth+1 || s.Skips > c.steps {
				t.Errorf("%+v", s)
			}
		}
		for phase := range 6 {
			// A saga of one step is never undone.
			if there := c.steps > 1 || phase == api.Running || phase == api.Completed || phase == api.Compensated; there != (phases[phase] > 0) {
				t.Errorf("%+v: %d of phase %d", c, phases[phase], phase)
			}
		}
	}
}

// drawn is a definition whose numbers are drawn.
func drawn(m *mixer) api.Def {
	d := right(1 + m.below(5))
	d.Deadline = []int{0, 0, 30, 200, end, 5}[m.below(6)]
	for i := range d.Steps {
		draw := func() api.Plan {
			base := 1 + m.below(4)
			return api.Plan{Retries: m.below(4), Base: base, Factor: 1 + m.below(16), Cap: base + m.below(20)}
		}
		d.Steps[i].Timeout = 1 + m.below(9)
		d.Steps[i].Try, d.Steps[i].Undo = draw(), draw()
	}
	return d
}

// diary is what a drawn row of calls has come to: how often each step was emitted, each way, since it was last begun.
type diary struct {
	forth, back [mostSteps]int
	turned      bool
	lowest      int // the step that was undone last
}

// note holds a command against what was emitted ahead of it.
func (y *diary) note(t *testing.T, d api.Def, s api.Saga, c api.Command, now int) {
	step := d.Steps[c.Step]
	if c.Undo {
		if y.turned && c.Step > y.lowest {
			t.Fatalf("step %d is undone behind %d", c.Step, y.lowest)
		}
		y.turned, y.lowest = true, c.Step
		y.back[c.Step]++
	} else {
		y.forth[c.Step]++
		if y.turned || now >= endOf(d, s) || y.forth[c.Step] > step.Try.Retries+1 {
			t.Fatalf("%+v at %d of %+v, behind %+v", c, now, s, y)
		}
	}
	if y.back[c.Step] > step.Undo.Retries+1 || c.Try > max(y.forth[c.Step], y.back[c.Step]) {
		t.Fatalf("%+v at %d of %+v, behind %+v", c, now, s, y)
	}
}

// call does a drawn call, held against the chapter.
func (m *mixer) call(t *testing.T, d api.Def, s api.Saga, now int, y *diary) api.Saga {
	next, e := s, api.OK
	switch kind := m.below(12); {
	case kind < 4:
		var c api.Command
		if next, c, e = emit(t, d, s, now); e == api.OK {
			y.note(t, d, next, c, now)
		}
	case kind < 7:
		r := api.Reply{Saga: s.ID, Step: s.Step, Undo: s.Phase == api.Undoing, Try: s.Tries - m.below(2), Good: s.Phase == api.Running && m.below(3) > 0 || m.below(3) > 1}
		if m.below(4) == 0 {
			all := replies(s)
			r = all[m.below(len(all))]
		}
		next, e = reply(t, d, s, r, now)
	case kind < 9:
		next, e = hand(t, late, d, s, now)
	case m.below(16) == 0:
		next, e = hand(t, cancel, d, s, now)
	default:
		call := []int{expire, retry, skip, abandon, retry, expire, late, late}[m.below(8)]
		if next, e = hand(t, call, d, s, now); call == retry && e == api.OK {
			y.back[s.Step] = 0
		}
	}
	if e != api.OK && next != s || e == api.OK && Over(s) {
		t.Fatalf("%+v became %+v beside %d", s, next, e)
	}
	return next
}

// P14.5: drawn rows of calls, from Begin on, at ticks that rise and at any.
func TestDrawnRows(t *testing.T) {
	m := mixer(1)
	phases := map[int]int{}
	for row := range 3000 {
		d := drawn(&m)
		own := def.Own(d)
		from := []int{0, 10, end - 60, end - 5}[m.below(4)]
		s, now := Begin(d, m.below(1000), from), from
		y := diary{}
		for range 10 + m.below(90) {
			if now = min(now+m.below(6), end); row%4 == 0 {
				now = from + m.below(70)
			}
			s = m.call(t, d, s, now, &y)
			if !Good(d, s) {
				t.Fatalf("%+v of %+v isn't good", s, d)
			}
			due(t, d, s)
		}
		phases[s.Phase]++
		if !def.Same(d, own) {
			t.Fatalf("%+v became %+v", own, d)
		}
	}
	for phase := api.Parked; phase <= api.Abandoned; phase++ {
		if phases[phase] < 20 {
			t.Errorf("%v", phases)
		}
	}
}

// R4: nothing is written into a definition, nor read behind its steps.
func TestArgumentsStay(t *testing.T) {
	for _, n := range []int{1, 2, mostSteps} {
		room := append(right(n).Steps, api.Step{Name: "rest", Party: "p", Timeout: 1, Try: api.Plan{Factor: 1, Base: 1, Cap: 1}, Undo: api.Plan{Factor: 1, Base: 1, Cap: 1}}, api.Step{Name: "bad"})
		d := right(n)
		d.Steps = room[:n]
		before := slices.Clone(room)
		for phase := range 6 {
			for step := range n + 1 {
				s := api.Saga{ID: 2, Def: "order", Phase: phase, Step: step, Tries: 1, Out: phase < 2, At: 3}
				if phase == api.Parked {
					s.Tries = 4
				}
				hold(t, d, s, 5)
				if Good(d, s) != (step < n) {
					t.Errorf("%d steps, step %d", n, step)
				}
			}
		}
		Begin(d, 1, 2)
		if d.Name != "order" || d.Deadline != 100 || len(d.Steps) != n || !slices.Equal(room, before) {
			t.Errorf("%d steps: %+v", n, d)
		}
	}
}

// P1: every call ends, at all arguments, and answers what the chapter says.
func TestAnyArguments(t *testing.T) {
	edges := []int{lowest, lowest + 1, -end, -1, 0, 1, 2, 4, 5, 31, 32, 33, end, end + 1, highest - 1, highest}
	texts := []string{"", "order", "\xff", "a/b"}
	m := mixer(7)
	edge := func() int { return edges[m.below(len(edges))] }
	for i := range 60_000 {
		d := right(m.below(4))
		if i%4 == 0 {
			p := api.Plan{Retries: edge(), Base: edge(), Factor: edge(), Cap: edge()}
			d = api.Def{Name: texts[m.below(4)], Deadline: edge(), Steps: []api.Step{{Name: texts[m.below(4)], Party: texts[m.below(4)], Timeout: edge(), Try: p, Undo: p, Prio: edge()}}}
		}
		s := api.Saga{ID: edge(), Def: texts[m.below(4)], Start: edge(), Phase: m.below(8) - 1, Step: edge(), Tries: edge(), Out: i%3 == 0, At: edge(), Skips: edge()}
		if i%2 == 0 {
			s = api.Saga{ID: max(edge(), 0), Def: d.Name, Start: m.below(200), Phase: m.below(6), Step: m.below(4), Tries: m.below(6), Out: i%3 == 0, At: m.below(200), Skips: m.below(33)}
		}
		now := edge()
		emit(t, d, s, now)
		due(t, d, s)
		hand(t, m.below(callCount), d, s, now)
		reply(t, d, s, api.Reply{Saga: []int{s.ID, edge()}[m.below(2)], Step: edge(), Undo: m.below(2) == 0, Try: edge(), Good: m.below(2) == 0}, now)
		if Good(d, s) != isGood(d, s) || Over(s) != isOver(s) || Begin(d, s.ID, now).At != max(0, min(now, end)) {
			t.Fatalf("%+v, %+v", d, s)
		}
	}
}

// P14.5: the chapter's example: one step with one retry: emit, late, emit, late: Compensated.
func TestExampleOfTheChapter(t *testing.T) {
	d := api.Def{Name: "order", Steps: []api.Step{{Name: "book", Party: "hotel", Timeout: 5, Try: api.Plan{Retries: 1, Base: 2, Factor: 2, Cap: 8}, Undo: api.Plan{Base: 1, Factor: 1, Cap: 1}}}}
	s := Begin(d, 3, 10)
	for i, now := range []int{10, 17} {
		var e api.Errno
		if s, _, e = emit(t, d, s, now); e != api.OK || s.Tries != i+1 || s.At != now+5 {
			t.Fatalf("%+v, %d", s, e)
		}
		if s, e = hand(t, late, d, s, now+5); e != api.OK || s.Out {
			t.Fatalf("%+v, %d", s, e)
		}
	}
	if s.Phase != api.Compensated || !Over(s) {
		t.Errorf("%+v", s)
	}
}

func Example() {
	plan := api.Plan{Retries: 1, Base: 2, Factor: 2, Cap: 8}
	d := api.Def{Name: "order", Steps: []api.Step{{Name: "book", Party: "hotel", Timeout: 5, Try: plan, Undo: plan}}}
	s := Begin(d, 3, 10)
	s, c, _ := Emit(d, s, 10)
	fmt.Println(c.Key, c.Party, s.Out, s.At)
	s, _ = Late(d, s, 15)
	fmt.Println(s.Out, s.At, May(d, s, 16), May(d, s, 17))
	s, c, _ = Emit(d, s, 17)
	at, ok := Due(d, s)
	fmt.Println(c.Try, at, ok)
	_, e := Reply(d, s, api.Reply{Saga: 3, Try: 1}, 18)
	fmt.Println(e == api.ErrLate)
	s, _ = Late(d, s, 22)
	fmt.Println(s.Phase == api.Compensated, Over(s))
	_, e = Cancel(d, s, 23)
	fmt.Println(e == api.ErrOver)
	// Output:
	// 3/book/do hotel true 15
	// false 17 false true
	// 2 22 true
	// true
	// true true
	// true
}
