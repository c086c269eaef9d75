package couriers

import (
	"testing"

	"couriers/api"
)

func TestCancel(t *testing.T) {
	w := start(t, rich())
	for _, number := range append(farNumbers(), -1, 0, 1, 7) {
		w.isStale(cancel(number))
	}
	w.does(submit(7, 50), launch(7, 1, 50))
	w.isStale(cancel(1))
	w.does(cancel(7), cancelled(7), stop(7, 1))
	w.is(api.State{Balance: 100, Stale: 16})
	w.isStale(cancel(7))
	w.does(submitOnce(-7, 50), launch(-7, 2, 50))
	w.does(nack(2, 0))
	w.does(cancel(-7), cancelled(-7))
	w.is(api.State{Balance: 200, Stale: 17})
	w.does(to(100))
	w.does(submit(9, 0), refuse(9, api.NoTimeout))
	w.isStale(cancel(9))
}

func TestCancelLeavesTheOthers(t *testing.T) {
	w := start(t, rich())
	w.does(submit(1, 50), launch(1, 1, 50))
	w.does(submit(2, 40), launch(2, 2, 40))
	w.does(submit(3, 30), launch(3, 3, 30))
	w.does(nack(1, 0))
	w.does(nack(2, 0))
	w.does(cancel(2), cancelled(2))
	w.is(api.State{Balance: 300, Calls: []int{1, 3}, Attempts: []int{3}, Timers: 3})
	w.does(to(50), launch(1, 4, 45), late(3), stop(3, 3), late(1), stop(1, 4))
}

func TestAdvanceAtTheEdges(t *testing.T) {
	w := start(t, rich())
	w.does(to(0))
	w.is(api.State{})
	w.isStale(to(-1))
	w.isStale(to(-1 << 63))
	w.does(to(10))
	w.does(to(10))
	w.is(api.State{Now: 10, Stale: 2})
	w.isStale(to(9))
	w.isStale(to(0))
	for _, time := range []int{api.MaxTime + 1, 2 * api.MaxTime, 1 << 62, 1<<63 - 1} {
		w.isStale(to(time))
	}
	w.does(to(api.MaxTime - 1))
	w.does(to(api.MaxTime))
	w.does(to(api.MaxTime))
	w.is(api.State{Now: api.MaxTime, Stale: 8})
	w.isStale(to(api.MaxTime - 1))
	w.isStale(to(api.MaxTime + 1))
}

// A stale Advance lets no timer ring.
func TestAStaleAdvanceWithTimersSet(t *testing.T) {
	w := start(t, rich())
	w.does(to(10))
	w.does(submit(1, 5), launch(1, 1, 5))
	w.isStale(to(9))
	w.isStale(to(api.MaxTime + 1))
	w.isStale(to(1<<63 - 1))
	w.does(to(api.MaxTime), late(1), stop(1, 1))
}

func TestEventsOfOtherKinds(t *testing.T) {
	w := start(t, rich())
	w.does(submit(1, 50), launch(1, 1, 50))
	for _, kind := range append(farNumbers(), -1, 0, 7, 8) {
		w.isStale(api.Event{Kind: kind})
		for _, number := range append(farNumbers(), 1) {
			w.isStale(api.Event{Kind: kind, Call: number, Attempt: number, Value: number, Timeout: number, Safe: true, Draw: uint64(number), To: number})
		}
	}
	w.is(api.State{Balance: 100, Calls: []int{1}, Attempts: []int{1}, Timers: 1, Stale: 15 * 13})
}

func TestLate(t *testing.T) {
	w := start(t, rich())
	w.does(to(3))
	w.does(submit(1, 10), launch(1, 1, 10))
	w.does(to(12))
	w.is(api.State{Now: 12, Balance: 100, Calls: []int{1}, Attempts: []int{1}, Timers: 1})
	w.does(to(13), late(1), stop(1, 1))
	w.is(api.State{Now: 13, Balance: 100})
	w.does(to(14))
}

// Eight calls, submitted in no order of their numbers or deadlines.
func TestTimersRingInOrder(t *testing.T) {
	w := start(t, rich())
	for i, x := range []struct{ call, timeout int }{{5, 30}, {2, 10}, {8, 20}, {1, 40}, {7, 10}, {3, 5}, {6, 20}, {4, 10}} {
		w.does(submit(x.call, x.timeout), launch(x.call, i+1, x.timeout))
	}
	w.does(to(20),
		late(3), stop(3, 6),
		late(2), stop(2, 2), late(7), stop(7, 5), late(4), stop(4, 8),
		late(8), stop(8, 3), late(6), stop(6, 7))
	w.is(api.State{Now: 20, Balance: 800, Calls: []int{1, 5}, Attempts: []int{1, 4}, Timers: 2})
	w.does(to(40), late(5), stop(5, 1), late(1), stop(1, 4))
}

// Of a deadline and the end of a wait at the same time the one that was set earlier comes first, whatever it is.
func TestTimersOfTwoKindsAtTheSameTime(t *testing.T) {
	w := start(t, rich())
	w.does(submit(1, 8), launch(1, 1, 8))
	w.does(submit(2, 50), launch(2, 2, 50))
	w.does(nack(2, 3))
	w.does(submit(3, 8), launch(3, 3, 8))
	w.does(to(8), late(1), stop(1, 1), launch(2, 4, 42), late(3), stop(3, 3))
}

// One Advance goes through waits and deadlines, each at its time.
func TestOneAdvanceOverAll(t *testing.T) {
	w := start(t, rich())
	w.does(submit(1, 30), launch(1, 1, 30))
	w.does(nack(1, 2))
	w.does(submit(2, 6), launch(2, 2, 6))
	w.does(submitOnce(3, 100), launch(3, 3, 100))
	w.does(nack(3, 0))
	w.does(to(api.MaxTime), launch(3, 4, 95), late(2), stop(2, 2), launch(1, 5, 23), late(1), stop(1, 5), late(3), stop(3, 4))
	w.is(api.State{Now: api.MaxTime})
}

// Behind its Result a call has no timer, whatever the Result was.
func TestTimersGoWithTheResult(t *testing.T) {
	c := rich()
	c.Cost = 1000
	for _, x := range []struct {
		event api.Event
		want  []api.Action
	}{
		{ok(2, 1), []api.Action{done(2, 1)}},
		{fail(2, 0), []api.Action{failed(2)}},
		{cancel(2), []api.Action{cancelled(2), stop(2, 2)}},
		{cancel(1), []api.Action{cancelled(1)}},
	} {
		w := start(t, c)
		w.does(submit(1, 50), launch(1, 1, 50))
		w.does(submitOnce(2, 50), launch(2, 2, 50))
		w.does(nack(1, 0))
		w.hasTimers(3)
		w.does(x.event, x.want...)
		w.hasTimers(3 - 1 - x.want[0].Call%2)
	}
	w := start(t, c)
	w.does(submit(1, 50), launch(1, 1, 50))
	w.does(nack(1, 0))
	w.does(to(5), failed(1))
	w.hasTimers(0)
	w.does(to(50))
}
