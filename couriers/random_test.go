package couriers

import (
	"math/rand"
	"slices"
	"testing"

	"couriers/api"
)

// ledger is what there must be, as far as the events and the actions alone tell it.
type ledger struct {
	now, stale, samples int
	calls               map[int]int // the deadline of each open call
	had                 map[int]int // how many attempts each open call has had
	attempts            map[int]int // the call of each open attempt
	launched            int
}

func newLedger() *ledger {
	return &ledger{calls: map[int]int{}, had: map[int]int{}, attempts: map[int]int{}}
}

func (l *ledger) closeCall(number int) {
	delete(l.calls, number)
	delete(l.had, number)
}

// openOf are the open attempts of a call, rising.
func (l *ledger) openOf(call int) []int {
	var list []int
	for attempt, of := range l.attempts {
		if of == call {
			list = append(list, attempt)
		}
	}
	slices.Sort(list)
	return list
}

// write enters an event and the actions that came of it.
func (l *ledger) write(t *testing.T, c api.Config, e api.Event, actions []api.Action) {
	t.Helper()
	switch _, open := l.attempts[e.Attempt]; {
	case e.Kind == api.Submit:
		if len(actions) != 1 {
			t.Errorf("P10: %+v of a Submit", actions)
		}
		if len(actions) == 1 && actions[0].Kind == api.Launch {
			l.calls[e.Call] = l.now + e.Timeout
		}
	case e.Kind >= api.Ok && e.Kind <= api.Nack:
		if !open {
			l.stale++
		} else if e.Kind == api.Ok {
			l.samples = min(l.samples+1, 32)
		}
		delete(l.attempts, e.Attempt)
	case e.Kind == api.Cancel:
		if _, open := l.calls[e.Call]; !open {
			l.stale++
		}
	case e.Kind == api.Advance && e.To >= l.now && e.To <= api.MaxTime:
		l.now = e.To
	default:
		l.stale++
	}
	for i := 0; i < len(actions); i++ {
		i += l.do(t, c, actions[i], actions[i+1:])
	}
}

// do enters one action; it gives how many Stops stand behind it.
func (l *ledger) do(t *testing.T, c api.Config, a api.Action, behind []api.Action) int {
	t.Helper()
	deadline, open := l.calls[a.Call]
	switch {
	case a.Kind == api.Refuse:
		return 0
	case !open:
		t.Errorf("P8: %+v of a call that is not open", a)
	case a.Kind == api.Launch:
		l.launched++
		l.had[a.Call]++
		l.attempts[a.Attempt] = a.Call
		if a.Attempt != l.launched || a.Left < 1 || a.Left > deadline || l.had[a.Call] > c.Attempts {
			t.Errorf("P10: %+v is launch %d, and %d of its call", a, l.launched, l.had[a.Call])
		}
		return 0
	case a.Kind == api.Result:
		list := l.openOf(a.Call)
		for i, attempt := range list {
			if i >= len(behind) || behind[i] != stop(a.Call, attempt) {
				t.Errorf("P8: behind %+v stand %+v, open were %v", a, behind, list)
			}
			delete(l.attempts, attempt)
		}
		l.closeCall(a.Call)
		return len(list)
	}
	return 0
}

// agrees holds a State against the ledger.
func (l *ledger) agrees(t *testing.T, c api.Config, s api.State) {
	t.Helper()
	var calls, attempts []int
	timers := 0
	for call, deadline := range l.calls {
		calls = append(calls, call)
		timers++
		if len(l.openOf(call)) == 0 {
			timers++ // it waits
		}
		if deadline <= l.now {
			t.Errorf("P10: call %d is open at %d, its deadline is %d", call, l.now, deadline)
		}
	}
	for attempt := range l.attempts {
		attempts = append(attempts, attempt)
	}
	slices.Sort(calls)
	slices.Sort(attempts)
	if !slices.Equal(s.Calls, calls) || !slices.Equal(s.Attempts, attempts) {
		t.Errorf("P9: State = %+v, want the calls %v and the attempts %v", s, calls, attempts)
	}
	if s.Now != l.now || s.Stale != l.stale || s.Samples != l.samples || s.Timers != timers {
		t.Errorf("P9: State = %+v, want %d, %d stale, %d samples, %d timers", s, l.now, l.stale, l.samples, timers)
	}
	if s.Balance < 0 || s.Balance > c.Cap {
		t.Errorf("P9: the balance is %d of %d", s.Balance, c.Cap)
	}
}

func randomConfig(r *rand.Rand) api.Config {
	base := 1 + r.Intn(5)
	return api.Config{
		Deposit: r.Intn(4), Cost: 1 + r.Intn(3), Cap: r.Intn(9), Window: 1 + r.Intn(30),
		Attempts: 1 + r.Intn(6), Flight: 1 + r.Intn(8),
		Base: base, Most: base + r.Intn(20), Rank: 1 + r.Intn(100),
	}
}

// randomEvent is mostly of calls and attempts that may be open.
func randomEvent(r *rand.Rand, l *ledger) api.Event {
	e := api.Event{
		Kind: 1 + r.Intn(6), Call: r.Intn(10) - 3, Attempt: l.launched - r.Intn(6), Value: r.Intn(100),
		Timeout: r.Intn(40), Safe: r.Intn(2) == 0, Draw: r.Uint64() >> r.Intn(64), To: l.now + r.Intn(9) - 1,
	}
	if r.Intn(50) == 0 {
		e.Kind = r.Intn(20) - 6
	}
	return e
}

// bySteps gives the actions of a client that goes to a time by steps of 1.
func bySteps(client *Client, e api.Event) []api.Action {
	now := client.State().Now
	if e.Kind != api.Advance || e.To <= now {
		return client.Step(e)
	}
	var actions []api.Action
	for now < e.To {
		now++
		actions = append(actions, client.Step(api.Event{Kind: api.Advance, To: now})...)
	}
	return actions
}

// Whatever happens, State agrees with what was told to be done, and the length of the steps of time does not matter.
func TestRandomWalks(t *testing.T) {
	for seed := range int64(300) {
		r := rand.New(rand.NewSource(seed))
		c := randomConfig(r)
		client, _ := New(c)
		slow, _ := New(c)
		l := newLedger()
		for range 300 {
			e := randomEvent(r, l)
			actions := client.Step(e)
			l.write(t, c, e, actions)
			l.agrees(t, c, client.State())
			if got := bySteps(slow, e); !slices.Equal(got, actions) {
				t.Errorf("P7: %+v by steps of 1 makes %+v, else %+v", e, got, actions)
			}
			if t.Failed() {
				t.Fatalf("seed %d: Step(%+v) = %+v with %+v", seed, e, actions, c)
			}
		}
	}
}
