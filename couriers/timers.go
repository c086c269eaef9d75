package couriers

import "couriers/api"

type timerKind int

const (
	deadlineTimer timerKind = iota + 1
	waitTimer
	hedgeTimer
)

// timer is what is to be done for an open call at a time.
type timer struct {
	kind timerKind
	call int
	due  int
	set  int // of two that are due at the same time the lesser comes first
}

// Before is the order of timers.
func (t timer) Before(other timer) bool {
	if t.due != other.due {
		return t.due < other.due
	}
	return t.set < other.set
}

func (c *Client) setTimer(kind timerKind, call, due int) {
	c.set++
	c.timers.Push(timer{kind: kind, call: call, due: due, set: c.set})
}

func (c *Client) dropTimers(call int) {
	c.timers.Drop(func(t timer) bool { return t.call == call })
}

func (c *Client) dropHedge(call int) {
	c.timers.Drop(func(t timer) bool { return t.call == call && t.kind == hedgeTimer })
}

// ring does what a timer was set for, now that it is due.
func (c *Client) ring(t timer) []api.Action {
	x := c.calls[t.call]
	switch {
	case t.kind == deadlineTimer:
		return c.finish(x, api.Late, 0)
	case c.units.Take(c.config.Cost):
		return c.launch(x)
	case t.kind == hedgeTimer:
		return nil
	}
	return c.finish(x, api.Failed, 0)
}
