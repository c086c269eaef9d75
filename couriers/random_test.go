package couriers

import (
	"math/rand"
	"reflect"
	"slices"
	"testing"

	"couriers/api"
)

// ledger is what there must be, as far as the events and the actions alone tell it.
type ledger struct {
	t                   *testing.T
	c                   api.Config
	now, stale, samples int
	calls               map[int]*entry // the open calls
	attempts            map[int]int    // the call of each open attempt
	admitted, launched  []int          // when each call was, and when each attempt
	beside              int            // attempts that were launched while another of their call was open
}

type entry struct {
	safe          bool
	deadline, had int
}

func newLedger(t *testing.T, c api.Config) *ledger {
	return &ledger{t: t, c: c, calls: map[int]*entry{}, attempts: map[int]int{}}
}

// openOf are the open attempts of a call, rising.
func (l *ledger) openOf(call int) []int {
	var list []int
	for attempt, of := range l.attempts {
		if of == call {
			list = append(list, attempt)
		}
	}
	slices.Sort(list)
	return list
}

// write enters an event and the actions that came of it.
func (l *ledger) write(e api.Event, actions []api.Action) {
	l.t.Helper()
	before := l.now
	switch {
	case e.Kind == api.Submit:
		l.submit(e, actions)
	case e.Kind >= api.Ok && e.Kind <= api.Nack:
		l.answer(e, actions)
	case e.Kind == api.Cancel && l.calls[e.Call] != nil:
	case e.Kind == api.Advance && e.To >= l.now && e.To <= api.MaxTime:
		l.now = e.To
	default:
		l.stale++
	}
	for i := 0; i < len(actions); i++ {
		if a := actions[i]; a.Kind == api.Launch {
			before = l.launch(a, before)
		} else if a.Kind == api.Result {
			i += l.result(a, actions[i+1:])
		} else if a.Kind != api.Refuse {
			l.t.Errorf("P8: %+v stands behind no Result", a)
		}
	}
}

// submit: one Refuse, or a call that is open, never both.
func (l *ledger) submit(e api.Event, actions []api.Action) {
	l.t.Helper()
	if len(actions) != 1 || actions[0].Call != e.Call || actions[0].Kind != api.Launch && actions[0].Kind != api.Refuse {
		l.t.Fatalf("P10: a Submit makes %+v", actions)
	}
	if actions[0].Kind == api.Launch {
		if l.calls[e.Call] != nil {
			l.t.Errorf("P4: call %d is open already", e.Call)
		}
		l.calls[e.Call] = &entry{safe: e.Safe, deadline: l.now + e.Timeout}
		l.admitted = append(l.admitted, l.now)
	}
}

// answer: of a call that is not safe nothing is launched behind an Ok or a Fail, as that is its end.
func (l *ledger) answer(e api.Event, actions []api.Action) {
	l.t.Helper()
	call, open := l.attempts[e.Attempt]
	if !open {
		l.stale++
		return
	}
	ends := e.Kind == api.Ok || e.Kind == api.Fail && !l.calls[call].safe
	if ends && (len(actions) == 0 || actions[0].Kind != api.Result || actions[0].Call != call) {
		l.t.Errorf("P10: behind %+v call %d is open", e, call)
	}
	if e.Kind == api.Ok {
		l.samples = min(l.samples+1, 32)
	}
	delete(l.attempts, e.Attempt)
}

// launch enters a Launch that is not ahead of a time; it gives its own.
func (l *ledger) launch(a api.Action, notBefore int) int {
	l.t.Helper()
	x := l.calls[a.Call]
	if x == nil {
		l.t.Fatalf("P8: %+v of a call that is not open", a)
	}
	open := len(l.openOf(a.Call))
	at := x.deadline - a.Left
	x.had++
	l.attempts[a.Attempt] = a.Call
	l.launched = append(l.launched, at)
	if open > 0 {
		l.beside++
	}
	switch {
	case a.Attempt != len(l.launched):
		l.t.Errorf("P5: %+v is launch %d", a, len(l.launched))
	case a.Left < 1 || at < notBefore || at > l.now:
		l.t.Errorf("P10: %+v from %d to %d, the deadline is %d", a, notBefore, l.now, x.deadline)
	case x.had > l.c.Attempts:
		l.t.Errorf("P10: %+v is the call's attempt %d", a, x.had)
	case open > 0 && !x.safe:
		l.t.Errorf("P10: %+v beside another of a call that is not safe", a)
	case open > 0 && l.c.Samples == 0:
		l.t.Errorf("P5: %+v beside another without Samples", a)
	}
	return at
}

// result enters a Result; it gives how many Stops stand behind it.
func (l *ledger) result(a api.Action, behind []api.Action) int {
	l.t.Helper()
	if l.calls[a.Call] == nil {
		l.t.Errorf("P10: %+v of a call that is not open", a)
	}
	list := l.openOf(a.Call)
	for i, attempt := range list {
		if i >= len(behind) || behind[i] != stop(a.Call, attempt) {
			l.t.Errorf("P8: behind %+v stand %+v, open were %v", a, behind, list)
		}
		delete(l.attempts, attempt)
	}
	delete(l.calls, a.Call)
	return len(list)
}

// agrees holds a State against the ledger.
func (l *ledger) agrees(s api.State) {
	l.t.Helper()
	var calls, attempts []int
	for call, x := range l.calls {
		calls = append(calls, call)
		if x.deadline <= l.now {
			l.t.Errorf("P10: call %d is open at %d, its deadline is %d", call, l.now, x.deadline)
		}
	}
	for attempt := range l.attempts {
		attempts = append(attempts, attempt)
	}
	slices.Sort(calls)
	slices.Sort(attempts)
	if !slices.Equal(s.Calls, calls) || !slices.Equal(s.Attempts, attempts) {
		l.t.Errorf("P9: State = %+v, want the calls %v and the attempts %v", s, calls, attempts)
	}
	if s.Now != l.now || s.Stale != l.stale || s.Samples != l.samples {
		l.t.Errorf("P9: State = %+v, want %d, %d stale, %d samples", s, l.now, l.stale, l.samples)
	}
	if s.Balance < 0 || s.Balance > l.c.Cap {
		l.t.Errorf("P9: the balance is %d of %d", s.Balance, l.c.Cap)
	}
}

// within is how many of some times are from a to b.
func within(times []int, a, b int) int {
	count := 0
	for _, time := range times {
		if time >= a && time <= b {
			count++
		}
	}
	return count
}

// isBounded holds the last sentence of P10 against every span that begins and ends with a launch: a longer one that has no more launches may only cost more.
func (l *ledger) isBounded() {
	l.t.Helper()
	ends := slices.Compact(slices.Clone(l.launched))
	for i, a := range ends {
		ahead := within(l.admitted, a-l.c.Window+1, a-1)
		for _, b := range ends[i:] {
			cost := l.c.Cost * within(l.launched, a, b)
			most := (l.c.Cost+l.c.Deposit)*within(l.admitted, a, b) + min(l.c.Cap, l.c.Deposit*ahead)
			if cost > most {
				l.t.Fatalf("P10: the launches from %d to %d cost %d, at most %d may be: %+v", a, b, cost, most, l.c)
			}
		}
	}
}

func randomConfig(r *rand.Rand) api.Config {
	base := 1 + r.Intn(5)
	return api.Config{
		Deposit: r.Intn(4), Cost: 1 + r.Intn(3), Cap: r.Intn(9), Window: 1 + r.Intn(30),
		Attempts: 1 + r.Intn(6), Flight: 1 + r.Intn(8),
		Base: base, Most: base + r.Intn(20), Rank: 1 + r.Intn(100), Samples: r.Intn(4),
	}
}

// randomEvent is mostly of calls and attempts that may be open.
func randomEvent(r *rand.Rand, l *ledger) api.Event {
	e := api.Event{
		Kind: 1 + r.Intn(6), Call: r.Intn(10) - 3, Attempt: len(l.launched) - r.Intn(6), Value: r.Intn(100),
		Timeout: r.Intn(40), Safe: r.Intn(3) > 0, Draw: r.Uint64() >> r.Intn(64), To: l.now + r.Intn(9) - 1,
	}
	if r.Intn(50) == 0 {
		e.Kind = r.Intn(20) - 6
	}
	return e
}

// bySteps gives the actions of a client that goes to a time by steps of 1.
func bySteps(client *Client, e api.Event) []api.Action {
	now := client.State().Now
	if e.Kind != api.Advance || e.To <= now {
		return client.Step(e)
	}
	var actions []api.Action
	for now < e.To {
		now++
		actions = append(actions, client.Step(api.Event{Kind: api.Advance, To: now})...)
	}
	return actions
}

// randomWalk leads a client, one that goes by steps of 1, the model and a ledger through the same events; it gives the ledger.
func randomWalk(t *testing.T, c api.Config, r *rand.Rand, events int) *ledger {
	t.Helper()
	client, _ := New(c)
	slow, _ := New(c)
	plainly := &model{c: c}
	l := newLedger(t, c)
	for range events {
		e := randomEvent(r, l)
		actions := client.Step(e)
		if want := plainly.step(e); !slices.Equal(actions, want) {
			t.Errorf("P4 to P8: the model makes %+v", want)
		}
		if got := bySteps(slow, e); !slices.Equal(got, actions) {
			t.Errorf("P7: by steps of 1 it makes %+v", got)
		}
		l.write(e, actions)
		s := client.State()
		l.agrees(s)
		if want := plainly.state(); !alike(s, want) {
			t.Errorf("P9: State = %+v, the model has %+v", s, want)
		}
		if t.Failed() {
			t.Fatalf("Step(%+v) = %+v with %+v", e, actions, c)
		}
	}
	return l
}

// alike: a list without entries may be nil or not.
func alike(a, b api.State) bool {
	return numbersOf(a) == numbersOf(b) && slices.Equal(a.Calls, b.Calls) && slices.Equal(a.Attempts, b.Attempts)
}

// Whatever happens, the actions and State are the model's, they agree with each other, and P10 holds.
func TestRandomWalks(t *testing.T) {
	beside := 0
	for seed := range int64(300) {
		r := rand.New(rand.NewSource(seed))
		l := randomWalk(t, randomConfig(r), r, 400)
		l.isBounded()
		beside += l.beside
	}
	if beside < 1000 {
		t.Errorf("only %d attempts were launched beside others", beside)
	}
}

func TestLongRandomWalks(t *testing.T) {
	for seed := range int64(10) {
		r := rand.New(rand.NewSource(1000 + seed))
		c := randomConfig(r)
		c.Deposit, c.Cap, c.Attempts, c.Flight, c.Samples = 1+int(seed%3), 5+int(seed), 4+int(seed%3), 8, 1+3*int(seed)
		l := randomWalk(t, c, r, 4000)
		l.isBounded()
		if l.beside == 0 {
			t.Errorf("no attempt was launched beside another with %+v", c)
		}
	}
}

// P1 at every Rank and every number of Samples, which both reach the delay.
func TestEveryRankAndSamples(t *testing.T) {
	for rank := 1; rank <= 100; rank++ {
		for samples := range 33 {
			r := rand.New(rand.NewSource(int64(100*samples + rank)))
			c := hedging()
			c.Rank, c.Samples, c.Deposit, c.Cap = rank, samples, 3, 30
			randomWalk(t, c, r, 100+samples*8)
		}
	}
}

// Nothing that is handed out is kept: who writes over one client's answers changes no other answer.
func TestAnswersAreNewMemory(t *testing.T) {
	r := rand.New(rand.NewSource(7))
	c := randomConfig(r)
	c.Samples, c.Cap, c.Deposit = 1, 50, 3
	client, _ := New(c)
	other, _ := New(c)
	l := newLedger(t, c)
	for range 2000 {
		e := randomEvent(r, l)
		got, want := client.Step(e), other.Step(e)
		if !slices.Equal(got, want) {
			t.Fatalf("P2: Step(%+v) = %+v, or %+v when the answers are written over", e, want, got)
		}
		l.write(e, want)
		scribble(got, api.Action{Kind: -1, Call: -2, Attempt: -3, Outcome: -4, Value: -5, Left: -6})
		s := client.State()
		if !reflect.DeepEqual(s, other.State()) {
			t.Fatalf("P2: State = %+v, or %+v when the answers are written over", other.State(), s)
		}
		scribble(s.Calls, -7)
		scribble(s.Attempts, -8)
	}
}
