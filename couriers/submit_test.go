package couriers

import (
	"testing"

	"couriers/api"
)

func TestTheFirstExample(t *testing.T) {
	w := start(t, retrying())
	w.is(api.State{})
	w.does(submit(7, 50), launch(7, 1, 50))
	w.is(api.State{Balance: 1, Calls: []int{7}, Attempts: []int{1}, Timers: 1})
	w.does(fail(1, 0))
	w.is(api.State{Balance: 1, Calls: []int{7}, Timers: 2})
	w.does(to(5), failed(7))
	w.is(api.State{Now: 5, Balance: 1})
	w.does(submit(8, 50), launch(8, 2, 50))
	w.is(api.State{Now: 5, Balance: 2, Calls: []int{8}, Attempts: []int{2}, Timers: 1})
	w.does(nack(2, 3))
	w.is(api.State{Now: 5, Balance: 2, Calls: []int{8}, Timers: 2})
	w.does(to(13), launch(8, 3, 42))
	w.is(api.State{Now: 13, Calls: []int{8}, Attempts: []int{3}, Timers: 1})
	w.does(to(55), late(8), stop(8, 3))
	w.is(api.State{Now: 55})
}

func TestRefuseWithoutATimeout(t *testing.T) {
	w := start(t, rich())
	for _, timeout := range append(farNumbers(), -1, 0, 10001, 10002) {
		w.does(submit(1, timeout), refuse(1, api.NoTimeout))
		w.does(submitOnce(-5, timeout), refuse(-5, api.NoTimeout))
	}
	w.is(api.State{})
	w.does(submit(1, 1), launch(1, 1, 1))
	w.does(submitOnce(2, 10000), launch(2, 2, 10000))
	w.is(api.State{Balance: 200, Calls: []int{1, 2}, Attempts: []int{1, 2}, Timers: 2})
}

func TestRefuseWhatIsKnown(t *testing.T) {
	w := start(t, rich())
	for i, number := range append(farNumbers()[:6], -1, 0) {
		w.does(submit(number, 50), launch(number, i+1, 50))
		before := w.client.State()
		w.does(submit(number, 50), refuse(number, api.Known))
		w.does(submitOnce(number, 7), refuse(number, api.Known))
		w.is(before)
	}
	// A call that waits has no open attempt, but it is open.
	w.does(nack(8, 0))
	w.does(submit(0, 50), refuse(0, api.Known))
}

func TestRefuseWhenFull(t *testing.T) {
	for flight := 1; flight <= 8; flight++ {
		c := rich()
		c.Flight = flight
		w := start(t, c)
		for call := range flight {
			w.does(submit(call, 50), launch(call, call+1, 50))
		}
		before := w.client.State()
		w.does(submit(99, 50), refuse(99, api.Full))
		w.is(before)
		w.does(nack(1, 0))
		w.does(submit(99, 50), refuse(99, api.Full))
		w.does(cancel(0), cancelled(0))
		w.does(submit(99, 50), launch(99, flight+1, 50))
		w.does(submit(0, 50), refuse(0, api.Full))
	}
}

func TestRefuseWithoutTime(t *testing.T) {
	w := start(t, rich())
	w.does(to(api.MaxTime - 10000))
	w.does(submit(1, 10000), launch(1, 1, 10000))
	w.does(to(api.MaxTime - 9999))
	before := w.client.State()
	w.does(submit(2, 10000), refuse(2, api.NoTime))
	w.is(before)
	w.does(submit(2, 9999), launch(2, 2, 9999))
	w.does(to(api.MaxTime - 1))
	w.does(submit(3, 2), refuse(3, api.NoTime))
	w.does(submit(3, 1), launch(3, 3, 1))
	w.does(to(api.MaxTime), late(1), stop(1, 1), late(2), stop(2, 2), late(3), stop(3, 3))
	w.does(submit(4, 1), refuse(4, api.NoTime))
	w.is(api.State{Now: api.MaxTime, Balance: 300 - 100})
}

// Where several reasons hold, the first in the document's order is told.
func TestWhichRefuseIsTold(t *testing.T) {
	c := rich()
	c.Flight = 1
	full := start(t, c)
	full.does(to(api.MaxTime - 5))
	full.does(submit(1, 5), launch(1, 1, 5))
	full.does(submit(1, 10001), refuse(1, api.NoTimeout))
	full.does(submit(1, 0), refuse(1, api.NoTimeout))
	full.does(submit(2, 10001), refuse(2, api.NoTimeout))
	full.does(submit(2, 0), refuse(2, api.NoTimeout))
	full.does(submit(1, 6), refuse(1, api.Known))
	full.does(submit(1, 5), refuse(1, api.Known))
	full.does(submit(2, 6), refuse(2, api.Full))
	full.does(submit(2, 5), refuse(2, api.Full))

	c.Flight = 2
	free := start(t, c)
	free.does(to(api.MaxTime - 5))
	free.does(submit(1, 5), launch(1, 1, 5))
	free.does(submit(1, 10001), refuse(1, api.NoTimeout))
	free.does(submit(1, 6), refuse(1, api.Known))
	free.does(submit(1, 5), refuse(1, api.Known))
	free.does(submit(2, 10001), refuse(2, api.NoTimeout))
	free.does(submit(2, 6), refuse(2, api.NoTime))
	free.does(submit(2, 5), launch(2, 2, 5))
}

// A number is free behind each kind of Result, and nothing of the call that had it touches the new one.
func TestANumberThatIsUsedAgain(t *testing.T) {
	w := start(t, rich())
	w.does(submitOnce(7, 10), launch(7, 1, 10))
	w.does(ok(1, 4), done(7, 4))
	w.does(submitOnce(7, 20), launch(7, 2, 20))
	w.isStale(ok(1, 4))
	w.does(to(10))
	w.does(fail(2, 0), failed(7))
	w.does(submit(7, 15), launch(7, 3, 15))
	w.does(to(20))
	w.does(to(25), late(7), stop(7, 3))
	w.does(submit(7, 100), launch(7, 4, 100))
	w.does(nack(4, 10))
	w.hasTimers(2)
	w.does(cancel(7), cancelled(7))
	w.hasTimers(0)
	w.does(submit(7, 100), launch(7, 5, 100))
	w.does(to(124))
	w.does(to(125), late(7), stop(7, 5))
	w.is(api.State{Now: 125, Balance: 500, Samples: 1, Stale: 1})
}

// The last wait and the attempts that were had are those of one call, not of its number.
func TestANumberThatIsUsedAgainBeginsAnew(t *testing.T) {
	c := rich()
	c.Attempts = 2
	w := start(t, c)
	w.does(submit(7, 100), launch(7, 1, 100))
	w.does(nack(1, 10))
	w.does(to(15), launch(7, 2, 85))
	w.does(nack(2, 0), failed(7))
	w.does(submit(7, 100), launch(7, 3, 100))
	w.does(nack(3, 11))
	w.does(to(20), launch(7, 4, 95))
}
