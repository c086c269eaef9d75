package couriers

import (
	"cmp"
	"slices"

	"couriers/api"
)

// model is a client in the plainest way, to hold the real one against: units one by one, timers in the order in which they were set, each with what it does.
type model struct {
	c                    api.Config
	now, stale, launched int
	units                []int // when each came
	times                []int // all that were measured
	calls                []*modelCall
	timers               []*modelTimer
	actions              []api.Action
}

type modelCall struct {
	number, deadline, had, lastWait int
	safe                            bool
	open                            []int // attempts, rising
	at                              []int // when they were launched
}

type modelTimer struct {
	due   int
	call  *modelCall
	hedge bool
	ring  func()
}

func (m *model) step(e api.Event) []api.Action {
	m.actions = nil
	switch e.Kind {
	case api.Submit:
		m.submit(e)
	case api.Ok, api.Fail, api.Nack:
		m.answer(e)
	case api.Cancel:
		m.cancel(e.Call)
	case api.Advance:
		m.advance(e.To)
	default:
		m.stale++
	}
	return m.actions
}

func (m *model) state() api.State {
	s := api.State{Now: m.now, Balance: len(m.units), Timers: len(m.timers), Samples: min(len(m.times), 32), Stale: m.stale}
	for _, x := range m.calls {
		s.Calls = append(s.Calls, x.number)
		s.Attempts = append(s.Attempts, x.open...)
	}
	slices.Sort(s.Calls)
	slices.Sort(s.Attempts)
	return s
}

func (m *model) submit(e api.Event) {
	refuse := func(why int) {
		m.actions = append(m.actions, api.Action{Kind: api.Refuse, Call: e.Call, Outcome: why})
	}
	if e.Timeout < 1 || e.Timeout > 10000 {
		refuse(api.NoTimeout)
	} else if slices.ContainsFunc(m.calls, func(x *modelCall) bool { return x.number == e.Call }) {
		refuse(api.Known)
	} else if len(m.calls) == m.c.Flight {
		refuse(api.Full)
	} else if m.now > 1<<40-e.Timeout {
		refuse(api.NoTime)
	} else {
		m.admit(&modelCall{number: e.Call, safe: e.Safe, deadline: m.now + e.Timeout, lastWait: m.c.Base})
	}
}

func (m *model) admit(x *modelCall) {
	m.calls = append(m.calls, x)
	for range m.c.Deposit {
		if len(m.units) < m.c.Cap {
			m.units = append(m.units, m.now)
		}
	}
	m.set(x, x.deadline, false, func() { m.result(x, api.Late, 0) })
	m.launch(x)
}

func (m *model) set(x *modelCall, due int, hedge bool, ring func()) {
	m.timers = append(m.timers, &modelTimer{due, x, hedge, ring})
}

func (m *model) launch(x *modelCall) {
	m.launched++
	x.had++
	x.open = append(x.open, m.launched)
	x.at = append(x.at, m.now)
	m.actions = append(m.actions, launch(x.number, m.launched, x.deadline-m.now))
	if !x.safe || x.had == m.c.Attempts || m.c.Samples == 0 || len(m.times) < m.c.Samples {
		return
	}
	if due := m.now + m.delay(); due < x.deadline {
		m.set(x, due, true, func() { m.pay(x) })
	}
}

// delay counts up to the first time that has as many at or below it as are asked for.
func (m *model) delay() int {
	kept := m.times[max(0, len(m.times)-32):]
	time, below := -1, 0
	for 100*below < len(kept)*m.c.Rank {
		time++
		for _, other := range kept {
			if other == time {
				below++
			}
		}
	}
	_, greatest := Bucket(time)
	return greatest
}

// pay launches an attempt, if there are units for it.
func (m *model) pay(x *modelCall) bool {
	if len(m.units) < m.c.Cost {
		return false
	}
	m.units = m.units[m.c.Cost:]
	m.launch(x)
	return true
}

func (m *model) result(x *modelCall, outcome, value int) {
	m.actions = append(m.actions, api.Action{Kind: api.Result, Call: x.number, Outcome: outcome, Value: value})
	for _, attempt := range x.open {
		m.actions = append(m.actions, stop(x.number, attempt))
	}
	m.calls = slices.DeleteFunc(m.calls, func(other *modelCall) bool { return other == x })
	m.timers = slices.DeleteFunc(m.timers, func(t *modelTimer) bool { return t.call == x })
}

func (m *model) answer(e api.Event) {
	for _, x := range m.calls {
		if i := slices.Index(x.open, e.Attempt); i >= 0 {
			at := x.at[i]
			x.open = slices.Delete(x.open, i, i+1)
			x.at = slices.Delete(x.at, i, i+1)
			m.answerOf(x, at, e)
			return
		}
	}
	m.stale++
}

func (m *model) answerOf(x *modelCall, at int, e api.Event) {
	if e.Kind == api.Ok {
		m.times = append(m.times, m.now-at)
		m.result(x, api.Done, e.Value)
	} else if e.Kind == api.Fail && !x.safe {
		m.result(x, api.Failed, 0)
	} else if len(x.open) == 0 {
		m.timers = slices.DeleteFunc(m.timers, func(t *modelTimer) bool { return t.call == x && t.hedge })
		m.wait(x, e.Draw)
	}
}

func (m *model) wait(x *modelCall, draw uint64) {
	wait := min(m.c.Most, m.c.Base+int(draw%uint64(3*x.lastWait-m.c.Base+1)))
	if x.had == m.c.Attempts || m.now+wait >= x.deadline {
		m.result(x, api.Failed, 0)
		return
	}
	x.lastWait = wait
	m.set(x, m.now+wait, false, func() {
		if !m.pay(x) {
			m.result(x, api.Failed, 0)
		}
	})
}

func (m *model) cancel(number int) {
	for _, x := range m.calls {
		if x.number == number {
			m.result(x, api.Cancelled, 0)
			return
		}
	}
	m.stale++
}

// advance goes by steps of 1; at each time the timers ring in the order in which they were set, those that are set then too.
func (m *model) advance(to int) {
	if to < m.now || to > 1<<40 {
		m.stale++
		return
	}
	for ; m.now <= to; m.now++ {
		m.units = slices.DeleteFunc(m.units, func(came int) bool { return came+m.c.Window <= m.now })
		for len(m.timers) > 0 {
			first := slices.MinFunc(m.timers, func(a, b *modelTimer) int { return cmp.Compare(a.due, b.due) })
			if first.due > m.now {
				break
			}
			m.timers = slices.DeleteFunc(m.timers, func(t *modelTimer) bool { return t == first })
			first.ring()
		}
	}
	m.now = to
}
