package couriers

import (
	"slices"
	"testing"

	"couriers/api"
)

// walk is a client that a test leads from event to event. Its twin is given the same events with noise in the fields that their kinds do not name, and must answer the same.
type walk struct {
	t            *testing.T
	client, twin *Client
}

// retrying is the config of the document's first example.
func retrying() api.Config {
	return api.Config{Deposit: 1, Cost: 2, Cap: 10, Window: 100, Attempts: 3, Flight: 2, Base: 5, Most: 20, Rank: 95, Samples: 0}
}

// rich has units for every attempt that a test may ask for.
func rich() api.Config {
	return api.Config{Deposit: 100, Cost: 1, Cap: 1000, Window: 10000, Attempts: 6, Flight: 8, Base: 5, Most: 20, Rank: 95, Samples: 0}
}

// hedging is rich, and sends second attempts when one time was measured.
func hedging() api.Config {
	c := rich()
	c.Rank, c.Samples = 50, 1
	return c
}

// measured starts where these times were measured, one behind another: it is their sum now, and each had an attempt of a call that is not safe.
func measured(t *testing.T, c api.Config, times ...int) walk {
	t.Helper()
	w := start(t, c)
	now := 0
	for i, time := range times {
		w.does(submitOnce(-1, 10000), launch(-1, i+1, 10000))
		now += time
		w.does(to(now))
		w.does(ok(i+1, 0), done(-1, 0))
	}
	return w
}

func start(t *testing.T, c api.Config) walk {
	t.Helper()
	client, errno := New(c)
	twin, _ := New(c)
	if errno != api.OK {
		t.Fatalf("P3: New(%+v) tells %d", c, errno)
	}
	return walk{t, client, twin}
}

// does holds what a Step answers against want, and then writes over the answer, spare room too.
func (w walk) does(e api.Event, want ...api.Action) {
	w.t.Helper()
	for _, x := range []struct {
		client *Client
		event  api.Event
	}{{w.client, e}, {w.twin, noisy(e)}} {
		got := x.client.Step(x.event)
		if !slices.Equal(got, want) {
			w.t.Errorf("Step(%+v) = %+v, want %+v", x.event, got, want)
		}
		scribble(got, api.Action{Kind: -1, Call: -2, Attempt: -3, Outcome: -4, Value: -5, Left: -6})
	}
}

// is holds what State answers against want, and then writes over its lists, spare room too.
func (w walk) is(want api.State) {
	w.t.Helper()
	for _, client := range []*Client{w.client, w.twin} {
		got := client.State()
		if !slices.Equal(got.Calls, want.Calls) {
			w.t.Errorf("P9: State = %+v, want the calls %v", got, want.Calls)
		}
		scribble(got.Calls, -77)
		if !slices.Equal(got.Attempts, want.Attempts) {
			w.t.Errorf("P9: State = %+v, want the attempts %v", got, want.Attempts)
		}
		scribble(got.Attempts, -78)
		if numbersOf(got) != numbersOf(want) {
			w.t.Errorf("P9: State = %+v, want %+v", got, want)
		}
	}
}

func (w walk) hasTimers(want int) {
	w.t.Helper()
	if got := w.client.State().Timers; got != want {
		w.t.Errorf("P9: %d timers are set, want %d", got, want)
	}
}

func (w walk) hasBalance(want int) {
	w.t.Helper()
	if got := w.client.State().Balance; got != want {
		w.t.Errorf("P9: the balance is %d, want %d", got, want)
	}
}

// isStale holds that an event does nothing but count as stale.
func (w walk) isStale(e api.Event) {
	w.t.Helper()
	want := w.client.State()
	want.Stale++
	w.does(e)
	w.is(want)
}

func numbersOf(s api.State) [5]int {
	return [5]int{s.Now, s.Balance, s.Timers, s.Samples, s.Stale}
}

func scribble[T any](list []T, with T) {
	list = list[:cap(list)]
	for i := range list {
		list[i] = with
	}
	_ = append(list, with)
}

func noisy(e api.Event) api.Event {
	n := api.Event{Kind: e.Kind, Call: 1, Attempt: 1, Value: 99, Timeout: 7, Safe: true, Draw: 1<<63 + 5, To: 3}
	switch e.Kind {
	case api.Submit:
		n.Call, n.Timeout, n.Safe = e.Call, e.Timeout, e.Safe
	case api.Ok:
		n.Attempt, n.Value = e.Attempt, e.Value
	case api.Fail, api.Nack:
		n.Attempt, n.Draw, n.Safe = e.Attempt, e.Draw, false
	case api.Cancel:
		n.Call = e.Call
	case api.Advance:
		n.To = e.To
	}
	return n
}

func submit(call, timeout int) api.Event {
	return api.Event{Kind: api.Submit, Call: call, Timeout: timeout, Safe: true}
}

func submitOnce(call, timeout int) api.Event {
	return api.Event{Kind: api.Submit, Call: call, Timeout: timeout}
}

func ok(attempt, value int) api.Event {
	return api.Event{Kind: api.Ok, Attempt: attempt, Value: value}
}

func fail(attempt int, draw uint64) api.Event {
	return api.Event{Kind: api.Fail, Attempt: attempt, Draw: draw}
}

func nack(attempt int, draw uint64) api.Event {
	return api.Event{Kind: api.Nack, Attempt: attempt, Draw: draw}
}

func cancel(call int) api.Event { return api.Event{Kind: api.Cancel, Call: call} }

func to(time int) api.Event { return api.Event{Kind: api.Advance, To: time} }

func launch(call, attempt, left int) api.Action {
	return api.Action{Kind: api.Launch, Call: call, Attempt: attempt, Left: left}
}

func stop(call, attempt int) api.Action {
	return api.Action{Kind: api.Stop, Call: call, Attempt: attempt}
}

func done(call, value int) api.Action {
	return api.Action{Kind: api.Result, Call: call, Outcome: api.Done, Value: value}
}

func failed(call int) api.Action {
	return api.Action{Kind: api.Result, Call: call, Outcome: api.Failed}
}

func late(call int) api.Action {
	return api.Action{Kind: api.Result, Call: call, Outcome: api.Late}
}

func cancelled(call int) api.Action {
	return api.Action{Kind: api.Result, Call: call, Outcome: api.Cancelled}
}

func refuse(call, why int) api.Action {
	return api.Action{Kind: api.Refuse, Call: call, Outcome: why}
}
