// Package couriers: a client that tries again where it may: see DOC.md.
package couriers

import (
	"errors"
	"maps"
	"slices"

	"couriers/api"
	"couriers/budget"
	"couriers/checks"
	"couriers/heap"
	"couriers/times"
)

// Client is calls, their attempts, and what they may cost.
type Client struct {
	config   api.Config
	now      int
	units    budget.Budget
	calls    map[int]*call   // that are open, by their numbers
	attempts map[int]attempt // that are open, by their numbers
	launched int             // attempts so far: the number of the last one
	timers   heap.Heap[timer]
	set      int // timers so far: which of two was set earlier
	measured times.Measured
	stale    int
}

// New makes a client (P3).
func New(c api.Config) (*Client, api.Errno) {
	if number := numberOf(checks.Config(c)); number != api.OK {
		return nil, number
	}
	return &Client{
		config:   c,
		units:    budget.New(c.Deposit, c.Cap, c.Window),
		calls:    map[int]*call{},
		attempts: map[int]attempt{},
	}, api.OK
}

// Step tells what is to be done when something happens (P4 to P8).
func (c *Client) Step(e api.Event) []api.Action {
	switch e.Kind {
	case api.Submit:
		return c.submit(e)
	case api.Ok, api.Fail, api.Nack:
		return c.answer(e)
	case api.Cancel:
		return c.cancel(e.Call)
	case api.Advance:
		return c.advance(e.To)
	}
	return c.pass()
}

// State tells what there is (P9).
func (c *Client) State() api.State {
	return api.State{
		Now:      c.now,
		Balance:  c.units.Balance(),
		Calls:    slices.Sorted(maps.Keys(c.calls)),
		Attempts: slices.Sorted(maps.Keys(c.attempts)),
		Timers:   c.timers.Len(),
		Samples:  c.measured.Count(),
		Stale:    c.stale,
	}
}

// Bucket tells the least and the greatest time that counts as this one (P7).
func Bucket(time int) (int, int) { return times.Bucket(time) }

func numberOf(err error) api.Errno {
	var fault *checks.Fault
	if errors.As(err, &fault) {
		return fault.Errno
	}
	return api.OK
}
