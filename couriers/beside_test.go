package couriers

import (
	"slices"
	"testing"

	"couriers/api"
)

// several has a call 1 whose attempts 2, 4, 5 and 6 are open at 36, among another's, and a hedge timer set for 45.
func several(t *testing.T) walk {
	t.Helper()
	w := measured(t, hedging(), 9)
	w.does(submit(1, 50), launch(1, 2, 50))
	w.does(submitOnce(2, 60), launch(2, 3, 60))
	w.does(to(36), launch(1, 4, 41), launch(1, 5, 32), launch(1, 6, 23))
	w.is(api.State{Now: 36, Balance: 297, Calls: []int{1, 2}, Attempts: []int{2, 3, 4, 5, 6}, Timers: 3, Samples: 1})
	return w
}

// The order of a map is another each time, so each end is tried again and again.
const tries = 20

func TestOkOfOneOfSeveral(t *testing.T) {
	for range tries {
		for _, attempt := range []int{2, 4, 5, 6} {
			w := several(t)
			want := []api.Action{done(1, 9)}
			for _, other := range []int{2, 4, 5, 6} {
				if other != attempt {
					want = append(want, stop(1, other))
				}
			}
			w.does(ok(attempt, 9), want...)
			w.is(api.State{Now: 36, Balance: 297, Calls: []int{2}, Attempts: []int{3}, Timers: 1, Samples: 2})
			for i, other := range []int{2, 4, 5, 6} {
				w.isStale([]api.Event{ok(other, 1), nack(other, 0), fail(other, 0), ok(other, 2)}[i])
			}
			w.does(to(69), late(2), stop(2, 3))
		}
	}
}

func TestCancelOfSeveral(t *testing.T) {
	for range tries {
		w := several(t)
		w.does(cancel(1), cancelled(1), stop(1, 2), stop(1, 4), stop(1, 5), stop(1, 6))
		w.is(api.State{Now: 36, Balance: 297, Calls: []int{2}, Attempts: []int{3}, Timers: 1, Samples: 1})
		w.does(to(69), late(2), stop(2, 3))
		w.isStale(ok(4, 0))
	}
}

func TestLateOfSeveral(t *testing.T) {
	for range tries {
		w := several(t)
		w.does(to(58), launch(1, 7, 14), launch(1, 8, 5))
		w.does(nack(4, 0))
		w.does(to(69), late(1), stop(1, 2), stop(1, 5), stop(1, 6), stop(1, 7), stop(1, 8), late(2), stop(2, 3))
		w.is(api.State{Now: 69, Balance: 295, Samples: 1})
		w.isStale(nack(8, 0))
	}
}

// Nothing of a hedge timer is left behind the Result: a call of the same number has its own alone.
func TestTheHedgeTimerGoesWithTheResult(t *testing.T) {
	for _, x := range []struct {
		event api.Event
		want  []api.Action
	}{
		{ok(2, 3), []api.Action{done(1, 3)}},
		{cancel(1), []api.Action{cancelled(1), stop(1, 2)}},
	} {
		c := hedging()
		c.Rank = 100
		w := measured(t, c, 9)
		w.does(submit(1, 50), launch(1, 2, 50))
		w.does(submit(2, 50), launch(2, 3, 50))
		w.hasTimers(4)
		w.does(x.event, x.want...)
		w.hasTimers(2)
		w.does(to(11))
		w.does(submit(1, 40), launch(1, 4, 40))
		w.does(to(19), launch(2, 5, 41))
		w.does(to(20), launch(1, 6, 31))
	}
}

// While another attempt is open, one that is lost is all that happens: the hedge timer stays, and no wait begins.
func TestALostOneOfSeveral(t *testing.T) {
	for _, lost := range []func(int, uint64) api.Event{fail, nack} {
		w := several(t)
		open := []int{2, 3, 4, 5, 6}
		for _, attempt := range []int{4, 2, 6} {
			w.does(lost(attempt, 10))
			open = slices.DeleteFunc(open, func(other int) bool { return other == attempt })
			w.is(api.State{Now: 36, Balance: 297, Calls: []int{1, 2}, Attempts: open, Timers: 3, Samples: 1})
		}
		w.isStale(lost(4, 10))
		w.does(to(44))
		w.does(to(45), launch(1, 7, 14))
		w.does(ok(5, 6), done(1, 6), stop(1, 7))
		w.is(api.State{Now: 45, Balance: 296, Calls: []int{2}, Attempts: []int{3}, Timers: 1, Samples: 2, Stale: 1})
	}
}

// When the last open attempt is lost, the hedge timer goes and the wait begins; the draws of the others do not matter.
func TestTheLastOneOfSeveralIsLost(t *testing.T) {
	for _, lost := range []func(int, uint64) api.Event{fail, nack} {
		w := several(t)
		w.does(lost(2, 1))
		w.does(lost(6, 2))
		w.does(lost(5, 3))
		w.does(to(38))
		w.does(lost(4, 10))
		w.is(api.State{Now: 38, Balance: 297, Calls: []int{1, 2}, Attempts: []int{3}, Timers: 3, Samples: 1})
		// The hedge would have come at 45.
		w.does(to(52))
		w.does(to(53), launch(1, 7, 6))
		w.is(api.State{Now: 53, Balance: 296, Calls: []int{1, 2}, Attempts: []int{3, 7}, Timers: 2, Samples: 1})
		w.does(lost(7, 0))
		w.hasTimers(3)
		w.does(to(58), launch(1, 8, 1))
		w.does(lost(8, 0), failed(1))
		w.is(api.State{Now: 58, Balance: 295, Calls: []int{2}, Attempts: []int{3}, Timers: 1, Samples: 1})
	}
}

// The last attempt is lost too near to the deadline for a wait, though the hedge timer is still set.
func TestTheLastOneIsLostNearTheDeadline(t *testing.T) {
	w := measured(t, hedging(), 9)
	w.does(submit(1, 15), launch(1, 2, 15))
	w.does(to(18), launch(1, 3, 6))
	w.does(nack(3, 0))
	w.does(nack(2, 1), failed(1))
	w.is(api.State{Now: 18, Balance: 199, Samples: 1})

	w = measured(t, hedging(), 9)
	w.does(submit(1, 15), launch(1, 2, 15))
	w.hasTimers(2)
	w.does(nack(2, 10), failed(1))
	w.is(api.State{Now: 9, Balance: 200, Samples: 1})
	w.does(to(100))
}

func TestTheLastOfAllAttemptsIsLost(t *testing.T) {
	c := hedging()
	c.Attempts = 3
	w := measured(t, c, 9)
	w.does(submit(1, 500), launch(1, 2, 500))
	w.does(to(30), launch(1, 3, 491), launch(1, 4, 482))
	w.does(fail(4, 0))
	w.does(nack(2, 0))
	w.is(api.State{Now: 30, Balance: 198, Calls: []int{1}, Attempts: []int{3}, Timers: 1, Samples: 1})
	w.does(fail(3, 0), failed(1))
	w.is(api.State{Now: 30, Balance: 198, Samples: 1})
}

// The first attempt is lost alone, ahead of its hedge: that one goes, and the one of another call stays.
func TestTheHedgeTimerOfAnotherCallStays(t *testing.T) {
	for _, lost := range []func(int, uint64) api.Event{fail, nack} {
		w := measured(t, hedging(), 9)
		w.does(submit(1, 60), launch(1, 2, 60))
		w.does(submit(2, 60), launch(2, 3, 60))
		w.does(submit(3, 60), launch(3, 4, 60))
		w.hasTimers(6)
		w.does(lost(3, 10))
		w.is(api.State{Now: 9, Balance: 400, Calls: []int{1, 2, 3}, Attempts: []int{2, 4}, Timers: 6, Samples: 1})
		w.does(to(24), launch(1, 5, 51), launch(3, 6, 51), launch(2, 7, 45))
		w.hasTimers(6)
		w.does(to(33), launch(1, 8, 42), launch(3, 9, 42), launch(2, 10, 36))
	}
}

// A wait that cannot be paid ends the call, though a hedge that cannot does not.
func TestAWaitBehindHedgesThatCannotBePaid(t *testing.T) {
	c := hedging()
	c.Deposit, c.Cost = 2, 4
	w := measured(t, c, 9)
	w.does(submit(1, 500), launch(1, 2, 500))
	w.does(to(18), launch(1, 3, 491))
	w.does(to(27))
	w.is(api.State{Now: 27, Calls: []int{1}, Attempts: []int{2, 3}, Timers: 1, Samples: 1})
	w.does(nack(2, 0))
	w.does(fail(3, 0))
	w.hasTimers(2)
	w.does(to(32), failed(1))
	w.is(api.State{Now: 32, Samples: 1})
}

// The last wait is one that was waited: an attempt that is lost beside another leaves it.
func TestTheLastWaitBehindALostOneOfSeveral(t *testing.T) {
	c := hedging()
	c.Most = 1000
	w := measured(t, c, 9)
	w.does(submit(1, 900), launch(1, 2, 900))
	w.does(to(18), launch(1, 3, 891))
	w.does(nack(2, 10))
	w.does(nack(3, 11)) // 11 modulo 11, as at first
	w.does(to(22))
	w.does(to(23), launch(1, 4, 886))
	w.does(nack(4, 10))
	w.does(to(37))
	w.does(to(38), launch(1, 5, 871))
	w.does(to(47), launch(1, 6, 862))
	w.does(nack(6, 5))
	w.does(nack(5, 41)) // 41 modulo 41: the last wait was 15
	w.does(to(51))
	w.does(to(52), launch(1, 7, 857))
}

// The time of an attempt is from its own Launch, whichever of the call it is.
func TestTheTimeOfALaterAttemptCounts(t *testing.T) {
	c := hedging()
	c.Rank = 1
	w := measured(t, c, 20)
	w.does(submit(1, 100), launch(1, 2, 100))
	w.does(to(46), launch(1, 3, 77))
	w.does(ok(3, 0), done(1, 0), stop(1, 2))
	// 3 was measured, and 20.
	w.does(submit(1, 100), launch(1, 4, 100))
	w.does(to(49), launch(1, 5, 97))
	w.does(ok(4, 0), done(1, 0), stop(1, 5))
	w.is(api.State{Now: 49, Balance: 298, Samples: 3})
}

// An Ok of a stopped attempt is stale, and its time does not count.
func TestAStoppedAttemptIsNotMeasured(t *testing.T) {
	c := hedging()
	c.Rank = 100
	w := measured(t, c, 9)
	w.does(submit(1, 100), launch(1, 2, 100))
	w.does(to(18), launch(1, 3, 91))
	w.does(ok(3, 0), done(1, 0), stop(1, 2))
	w.does(to(80))
	w.isStale(ok(2, 0))
	w.does(submit(1, 100), launch(1, 4, 100))
	w.does(to(89), launch(1, 5, 91))
}
