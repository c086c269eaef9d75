package couriers

import (
	"slices"

	"couriers/api"
)

// call is a call that is open.
type call struct {
	number   int
	safe     bool
	deadline int
	had      int // attempts, those that are not open any more too
	lastWait int
}

// attempt is an attempt that is open.
type attempt struct {
	call     int
	launched int // when
}

func (c *Client) launch(x *call) []api.Action {
	c.launched++
	x.had++
	c.attempts[c.launched] = attempt{call: x.number, launched: c.now}
	c.setHedge(x)
	return []api.Action{{Kind: api.Launch, Call: x.number, Attempt: c.launched, Left: x.deadline - c.now}}
}

// setHedge sets the timer for a further attempt beside the one that was just launched, if the call may have one (P5).
func (c *Client) setHedge(x *call) {
	if !c.mayHedge(x) {
		return
	}
	if due := c.now + c.measured.Delay(c.config.Rank); due < x.deadline {
		c.setTimer(hedgeTimer, x.number, due)
	}
}

func (c *Client) mayHedge(x *call) bool {
	enough := c.config.Samples > 0 && c.measured.Count() >= c.config.Samples
	return x.safe && enough && x.had < c.config.Attempts
}

// waitOrFail sets the timer for an attempt anew; a call that may have none fails (P6).
func (c *Client) waitOrFail(x *call, draw uint64) []api.Action {
	// No attempt is open any more that another could stand beside.
	c.dropHedge(x.number)
	wait := c.wait(x.lastWait, draw)
	if x.had >= c.config.Attempts || c.now+wait >= x.deadline {
		return c.finish(x, api.Failed, 0)
	}
	x.lastWait = wait
	c.setTimer(waitTimer, x.number, c.now+wait)
	return nil
}

func (c *Client) wait(last int, draw uint64) int {
	// No wait is below Base, so this is above 0.
	choices := 3*last - c.config.Base + 1
	return min(c.config.Base+int(draw%uint64(choices)), c.config.Most)
}

// finish ends a call: its Result, then a Stop for each of its attempts that is still open (P6 to P8).
func (c *Client) finish(x *call, outcome, value int) []api.Action {
	actions := []api.Action{{Kind: api.Result, Call: x.number, Outcome: outcome, Value: value}}
	for _, number := range c.openAttempts(x) {
		delete(c.attempts, number)
		actions = append(actions, api.Action{Kind: api.Stop, Call: x.number, Attempt: number})
	}
	delete(c.calls, x.number)
	c.dropTimers(x.number)
	return actions
}

// openAttempts are the numbers of a call's open attempts, rising.
func (c *Client) openAttempts(x *call) []int {
	var numbers []int
	for number, a := range c.attempts {
		if a.call == x.number {
			numbers = append(numbers, number)
		}
	}
	// A map has no order of its own.
	slices.Sort(numbers)
	return numbers
}
