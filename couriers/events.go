package couriers

import "couriers/api"

func (c *Client) submit(e api.Event) []api.Action {
	if why := c.whyNot(e); why != 0 {
		return []api.Action{{Kind: api.Refuse, Call: e.Call, Outcome: why}}
	}
	return c.admit(e)
}

// whyNot is why a call is refused, or 0; the order is a promise (P4).
func (c *Client) whyNot(e api.Event) int {
	switch {
	case e.Timeout < 1 || e.Timeout > api.MaxSpan:
		return api.NoTimeout
	case c.calls[e.Call] != nil:
		return api.Known
	case len(c.calls) >= c.config.Flight:
		return api.Full
	case c.now+e.Timeout > api.MaxTime:
		return api.NoTime
	}
	return 0
}

func (c *Client) admit(e api.Event) []api.Action {
	x := &call{number: e.Call, safe: e.Safe, deadline: c.now + e.Timeout, lastWait: c.config.Base}
	c.calls[x.number] = x
	c.units.Bring(c.now)
	c.setTimer(deadlineTimer, x.number, x.deadline)
	return c.launch(x)
}

// answer takes what became of an attempt: an Ok, a Fail or a Nack (P6).
func (c *Client) answer(e api.Event) []api.Action {
	a, open := c.attempts[e.Attempt]
	if !open {
		return c.pass()
	}
	delete(c.attempts, e.Attempt)
	x := c.calls[a.call]
	switch {
	case e.Kind == api.Ok:
		c.measured.Add(c.now - a.launched)
		return c.finish(x, api.Done, e.Value)
	case e.Kind == api.Fail && !x.safe:
		return c.finish(x, api.Failed, 0)
	case len(c.openAttempts(x)) > 0:
		return nil
	}
	return c.waitOrFail(x, e.Draw)
}

func (c *Client) cancel(number int) []api.Action {
	x := c.calls[number]
	if x == nil {
		return c.pass()
	}
	return c.finish(x, api.Cancelled, 0)
}

func (c *Client) advance(to int) []api.Action {
	if to < c.now || to > api.MaxTime {
		return c.pass()
	}
	var actions []api.Action
	for {
		t, ok := c.timers.First()
		if !ok || t.due > to {
			break
		}
		c.timers.Pop()
		c.goTo(t.due)
		actions = append(actions, c.ring(t)...)
	}
	c.goTo(to)
	return actions
}

func (c *Client) goTo(time int) {
	c.now = time
	c.units.Pass(time)
}

// pass lets a stale event go by.
func (c *Client) pass() []api.Action {
	c.stale++
	return nil
}
