package couriers

import (
	"slices"
	"testing"

	"couriers/api"
)

func TestTheLastExample(t *testing.T) {
	c := retrying()
	c.Rank, c.Samples = 50, 1
	w := measured(t, c, 9)
	w.does(submit(1, 50), launch(1, 2, 50))
	w.is(api.State{Now: 9, Balance: 2, Calls: []int{1}, Attempts: []int{2}, Timers: 2, Samples: 1})
	w.does(to(17))
	w.does(to(18), launch(1, 3, 41))
	w.is(api.State{Now: 18, Calls: []int{1}, Attempts: []int{2, 3}, Timers: 2, Samples: 1})
}

// The delay is seen by when the second attempt is launched.
func TestDelays(t *testing.T) {
	alike := slices.Repeat([]int{5}, 32)
	for _, x := range []struct {
		times       []int
		rank, delay int
	}{
		{[]int{9}, 1, 9}, {[]int{9}, 50, 9}, {[]int{9}, 95, 9}, {[]int{9}, 100, 9},
		{[]int{8}, 50, 9}, {[]int{100}, 95, 111}, {[]int{1}, 1, 1}, {[]int{8191}, 100, 8191}, {[]int{7000}, 100, 7167},
		{[]int{3, 1, 2}, 1, 1}, {[]int{3, 1, 2}, 50, 2}, {[]int{3, 1, 2}, 95, 3}, {[]int{3, 1, 2}, 100, 3},
		{[]int{7, 6, 5, 4}, 50, 5}, {[]int{7, 6, 5, 4}, 51, 6},
		{[]int{7, 7, 7}, 50, 7}, {[]int{111, 96, 100}, 1, 111}, {[]int{5, 0}, 51, 5},
		{alike, 1, 5}, {alike, 100, 5},
		{append([]int{100}, alike[1:]...), 100, 111}, {append([]int{100}, alike...), 100, 5},
		{append([]int{1}, alike[1:]...), 1, 1}, {append([]int{1}, alike...), 1, 5},
		{append(slices.Clone(alike), 100), 96, 5}, {append(slices.Clone(alike), 100), 97, 111},
		{append(slices.Repeat([]int{100}, 40), alike...), 95, 5}, {append(slices.Clone(alike), slices.Repeat([]int{100}, 17)...), 50, 111},
		{append(slices.Clone(alike), slices.Repeat([]int{100}, 16)...), 50, 5},
	} {
		c := hedging()
		c.Rank = x.rank
		w := measured(t, c, x.times...)
		now, first := w.client.State().Now, len(x.times)+1
		w.does(submit(1, 10000), launch(1, first, 10000))
		w.hasTimers(2)
		w.does(to(now + x.delay - 1))
		w.does(to(now+x.delay), launch(1, first+1, 10000-x.delay))
	}
}

// A delay of 0 is due now, and rings with the next Advance, even to now.
func TestADelayOfNothing(t *testing.T) {
	for _, times := range [][]int{{0}, {0, 5}, {0, 0, 0}} {
		w := measured(t, hedging(), times...)
		now, n := w.client.State().Now, len(times)
		w.does(submit(1, 50), launch(1, n+1, 50))
		w.hasTimers(2)
		w.does(to(now), launch(1, n+2, 50), launch(1, n+3, 50), launch(1, n+4, 50), launch(1, n+5, 50), launch(1, n+6, 50))
		w.is(api.State{Now: now, Balance: 100*n + 95, Calls: []int{1}, Attempts: []int{n + 1, n + 2, n + 3, n + 4, n + 5, n + 6}, Timers: 1, Samples: n})
		w.does(to(now))
	}
}

func TestNoHedgeOfACallThatIsNotSafe(t *testing.T) {
	w := measured(t, hedging(), 9)
	w.does(submitOnce(1, 50), launch(1, 2, 50))
	w.hasTimers(1)
	w.does(nack(2, 0))
	w.does(to(14), launch(1, 3, 45))
	w.hasTimers(1)
	w.does(to(58))
	w.does(to(59), late(1), stop(1, 3))
}

func TestNoHedgeWithoutSamples(t *testing.T) {
	c := hedging()
	c.Samples = 0
	for _, n := range []int{0, 1, 32, 40} {
		w := measured(t, c, slices.Repeat([]int{1}, n)...)
		w.does(submit(1, 50), launch(1, n+1, 50))
		w.hasTimers(1)
		w.does(to(n+50), late(1), stop(1, n+1))
	}
}

func TestAsManyTimesAsSamples(t *testing.T) {
	for _, samples := range []int{1, 2, 3, 31, 32} {
		c := hedging()
		c.Samples = samples
		for n := range 35 {
			w := measured(t, c, slices.Repeat([]int{2}, n)...)
			w.does(submit(1, 50), launch(1, n+1, 50))
			if n < samples {
				w.hasTimers(1)
				w.does(to(2*n + 49))
				continue
			}
			w.hasTimers(2)
			w.does(to(2*n + 1))
			w.does(to(2*n+2), launch(1, n+2, 48))
		}
	}
}

// Only a launch sets a hedge timer: a time that is measured behind it does not.
func TestTimesThatAreMeasuredBehindTheLaunch(t *testing.T) {
	w := start(t, hedging())
	w.does(submit(1, 100), launch(1, 1, 100))
	w.does(submitOnce(2, 100), launch(2, 2, 100))
	w.does(to(9))
	w.does(ok(2, 0), done(2, 0))
	w.is(api.State{Now: 9, Balance: 200, Calls: []int{1}, Attempts: []int{1}, Timers: 1, Samples: 1})
	w.does(to(60))
	w.does(nack(1, 0))
	w.does(to(65), launch(1, 3, 35))
	w.hasTimers(2)
	w.does(to(73))
	w.does(to(74), launch(1, 4, 26))
}

// A timer that is set stays where it is; the next one is set by what was measured till then.
func TestTheDelayIsTakenAtTheLaunch(t *testing.T) {
	c := hedging()
	c.Rank = 100
	w := measured(t, c, 9)
	w.does(submit(1, 100), launch(1, 2, 100))
	w.does(submitOnce(2, 100), launch(2, 3, 100))
	w.does(to(17))
	w.does(submitOnce(3, 100), launch(3, 4, 100))
	w.does(ok(4, 0), done(3, 0))
	w.does(to(18), launch(1, 5, 91))
	w.does(to(24))
	w.does(ok(3, 0), done(2, 0))
	w.does(to(27), launch(1, 6, 82))
	w.does(to(41))
	w.does(to(42), launch(1, 7, 67))
}

func TestHedgesUpToTheLastAttempt(t *testing.T) {
	for attempts := 1; attempts <= 6; attempts++ {
		c := hedging()
		c.Attempts = attempts
		w := measured(t, c, 9)
		w.does(submit(1, 1000), launch(1, 2, 1000))
		open := []int{2}
		for i := 1; i < attempts; i++ {
			w.is(api.State{Now: 9 * i, Balance: 201 - i, Calls: []int{1}, Attempts: open, Timers: 2, Samples: 1})
			w.does(to(9*i + 8))
			w.does(to(9*i+9), launch(1, i+2, 1000-9*i))
			open = append(open, i+2)
		}
		w.is(api.State{Now: 9 * attempts, Balance: 201 - attempts, Calls: []int{1}, Attempts: open, Timers: 1, Samples: 1})
		w.does(to(1008))
	}
}

// Attempts that were lost count too: those behind a wait and those beside another.
func TestLostAttemptsCount(t *testing.T) {
	c := hedging()
	c.Attempts = 4
	w := measured(t, c, 9)
	w.does(submit(1, 1000), launch(1, 2, 1000))
	w.does(nack(2, 0))
	w.does(to(14), launch(1, 3, 995))
	w.hasTimers(2)
	w.does(to(23), launch(1, 4, 986))
	w.does(fail(3, 0))
	w.does(to(32), launch(1, 5, 977))
	w.is(api.State{Now: 32, Balance: 197, Calls: []int{1}, Attempts: []int{4, 5}, Timers: 1, Samples: 1})
	w.does(to(1008))
}

func TestADelayThatEndsNearTheDeadline(t *testing.T) {
	for _, x := range []struct {
		timeout int
		hedges  int // further attempts, 9 behind one another
	}{{1, 0}, {8, 0}, {9, 0}, {10, 1}, {11, 1}, {17, 1}, {18, 1}, {19, 2}, {20, 2}, {27, 2}, {28, 3}} {
		w := measured(t, hedging(), 9)
		w.does(submit(1, x.timeout), launch(1, 2, x.timeout))
		ends := []api.Action{late(1), stop(1, 2)}
		for i := 1; i <= x.hedges; i++ {
			w.hasTimers(2)
			w.does(to(9+9*i), launch(1, 2+i, x.timeout-9*i))
			ends = append(ends, stop(1, 2+i))
		}
		w.hasTimers(1)
		w.does(to(8 + x.timeout))
		w.does(to(9+x.timeout), ends...)
		w.is(api.State{Now: 9 + x.timeout, Balance: 200 - x.hedges, Samples: 1})
	}
}

// At the greatest times nothing is set that could not be reached.
func TestHedgesNearTheGreatestTime(t *testing.T) {
	w := measured(t, hedging(), 9)
	w.does(to(api.MaxTime - 10))
	w.does(submit(1, 10), launch(1, 2, 10))
	w.does(submit(2, 9), launch(2, 3, 9))
	w.hasTimers(3)
	w.does(to(api.MaxTime), launch(1, 4, 1), late(2), stop(2, 3), late(1), stop(1, 2), stop(1, 4))

	w = measured(t, hedging(), 10000-1)
	w.does(to(api.MaxTime - 10000))
	w.does(submit(1, 10000), launch(1, 2, 10000))
	w.hasTimers(1)
}

func TestTheBalanceWhenAHedgeIsDue(t *testing.T) {
	for _, x := range []struct{ deposit, cost, attempts, balance int }{
		{4, 8, 1, 0}, {5, 8, 1, 2}, {4, 9, 0, 8}, {4, 7, 1, 1}, {0, 1, 0, 0}, {1, 1, 2, 0}, {2, 1, 4, 0}, {3, 1, 5, 1},
	} {
		c := hedging()
		c.Deposit, c.Cost = x.deposit, x.cost
		w := measured(t, c, 9)
		w.does(submit(1, 1000), launch(1, 2, 1000))
		w.is(api.State{Now: 9, Balance: 2 * x.deposit, Calls: []int{1}, Attempts: []int{2}, Timers: 2, Samples: 1})
		open := []int{2}
		for i := range x.attempts {
			w.does(to(18+9*i), launch(1, 3+i, 991-9*i))
			open = append(open, 3+i)
		}
		// The next one is due, if there may be one, but cannot be paid: it is gone, and the call goes on.
		w.does(to(18 + 9*x.attempts))
		w.is(api.State{Now: 18 + 9*x.attempts, Balance: x.balance, Calls: []int{1}, Attempts: open, Timers: 1, Samples: 1})
		w.does(submitOnce(2, 9000), launch(2, 3+x.attempts, 9000))
		w.does(to(1008))
	}
}

// Units that come behind a hedge that could not be paid do not bring it back, but an attempt behind a wait has one again.
func TestAHedgeThatCouldNotBePaid(t *testing.T) {
	c := hedging()
	c.Deposit, c.Cost = 2, 5
	w := measured(t, c, 9)
	w.does(submit(1, 1000), launch(1, 2, 1000))
	w.does(to(18))
	w.hasTimers(1)
	for call := 2; call <= 7; call++ {
		w.does(submitOnce(call, 1000), launch(call, call+1, 1000))
	}
	w.hasBalance(16)
	w.does(to(100))
	w.does(nack(2, 0))
	w.hasTimers(8)
	w.does(to(105), launch(1, 9, 904))
	w.hasTimers(8)
	w.does(to(114), launch(1, 10, 895))
	w.hasBalance(6)
}

// The balance is asked at the timer's time: units that go then are gone, those that go later in the same Advance are not.
func TestUnitsThatGoWhenAHedgeIsDue(t *testing.T) {
	c := hedging()
	c.Deposit, c.Window = 1, 9
	w := measured(t, c, 9)
	w.does(submit(1, 1000), launch(1, 2, 1000))
	w.hasBalance(1)
	w.does(to(500))
	w.is(api.State{Now: 500, Calls: []int{1}, Attempts: []int{2}, Timers: 1, Samples: 1})

	c.Window = 10
	w = measured(t, c, 9)
	w.does(submit(1, 1000), launch(1, 2, 1000))
	w.hasBalance(2)
	w.does(to(500), launch(1, 3, 991))
	w.is(api.State{Now: 500, Calls: []int{1}, Attempts: []int{2, 3}, Timers: 1, Samples: 1})
}

// The units that came first are taken for a hedge too.
func TestAHedgeTakesTheUnitsThatCameFirst(t *testing.T) {
	c := hedging()
	c.Deposit, c.Cost, c.Window = 3, 4, 30
	w := measured(t, c, 9)
	w.does(submit(1, 19), launch(1, 2, 19))
	w.does(to(12))
	w.does(submitOnce(2, 1000), launch(2, 3, 1000))
	w.hasBalance(9)
	w.does(to(18), launch(1, 4, 10))
	w.hasBalance(5)
	w.does(to(27), launch(1, 5, 1))
	w.hasBalance(1)
	w.does(to(28), late(1), stop(1, 2), stop(1, 4), stop(1, 5))
	w.does(to(41))
	w.hasBalance(1)
	w.does(to(42))
	w.hasBalance(0)
}

// Of a hedge and a deadline of another call at the same time the one that was set earlier comes first.
func TestAHedgeAndADeadlineAtTheSameTime(t *testing.T) {
	w := measured(t, hedging(), 9)
	w.does(submitOnce(1, 9), launch(1, 2, 9))
	w.does(submit(2, 50), launch(2, 3, 50))
	w.does(submitOnce(3, 9), launch(3, 4, 9))
	w.does(to(18), late(1), stop(1, 2), launch(2, 5, 41), late(3), stop(3, 4))
	w.is(api.State{Now: 18, Balance: 399, Calls: []int{2}, Attempts: []int{3, 5}, Timers: 2, Samples: 1})
}

// Two hedges at the same time: the one that was set earlier comes first, whatever the numbers of their calls, and has the units if they are for one.
func TestTwoHedgesAtTheSameTime(t *testing.T) {
	c := hedging()
	w := measured(t, c, 9)
	w.does(submit(8, 50), launch(8, 2, 50))
	w.does(submit(2, 40), launch(2, 3, 40))
	w.does(submit(5, 60), launch(5, 4, 60))
	w.does(to(18), launch(8, 5, 41), launch(2, 6, 31), launch(5, 7, 51))
	w.does(to(27), launch(8, 8, 32), launch(2, 9, 22), launch(5, 10, 42))

	c.Deposit, c.Cost = 2, 4
	w = measured(t, c, 9)
	w.does(submit(8, 50), launch(8, 2, 50))
	w.does(submit(2, 40), launch(2, 3, 40))
	w.does(to(18), launch(8, 4, 41))
	w.is(api.State{Now: 18, Balance: 2, Calls: []int{2, 8}, Attempts: []int{2, 3, 4}, Timers: 3, Samples: 1})
}

// Of a hedge and the end of another call's wait at the same time the one that was set earlier has the units; only the wait's call fails without.
func TestAHedgeAndAWaitAtTheSameTime(t *testing.T) {
	c := hedging()
	c.Deposit, c.Cost = 2, 4
	hedgeFirst := measured(t, c, 9)
	hedgeFirst.does(submit(1, 50), launch(1, 2, 50))
	hedgeFirst.does(submitOnce(2, 50), launch(2, 3, 50))
	hedgeFirst.does(nack(3, 4))
	hedgeFirst.does(to(18), launch(1, 4, 41), failed(2))
	hedgeFirst.is(api.State{Now: 18, Balance: 2, Calls: []int{1}, Attempts: []int{2, 4}, Timers: 2, Samples: 1})

	waitFirst := measured(t, c, 9)
	waitFirst.does(submitOnce(2, 50), launch(2, 2, 50))
	waitFirst.does(nack(2, 4))
	waitFirst.does(submit(1, 50), launch(1, 3, 50))
	waitFirst.does(to(18), launch(2, 4, 41))
	waitFirst.is(api.State{Now: 18, Balance: 2, Calls: []int{1, 2}, Attempts: []int{3, 4}, Timers: 2, Samples: 1})
}

// One Advance goes through hedges of several calls, a wait and deadlines, each at its time.
func TestSeveralHedgesInOneAdvance(t *testing.T) {
	w := measured(t, hedging(), 9)
	w.does(submit(1, 30), launch(1, 2, 30))
	w.does(to(13))
	w.does(submit(2, 20), launch(2, 3, 20))
	w.does(submit(3, 100), launch(3, 4, 100))
	w.does(nack(4, 10))
	w.does(to(39),
		launch(1, 5, 21),
		launch(2, 6, 11),
		launch(1, 7, 12),
		launch(3, 8, 85),
		launch(2, 9, 2),
		late(2), stop(2, 3), stop(2, 6), stop(2, 9),
		launch(1, 10, 3),
		launch(3, 11, 76),
		late(1), stop(1, 2), stop(1, 5), stop(1, 7), stop(1, 10))
	w.is(api.State{Now: 39, Balance: 393, Calls: []int{3}, Attempts: []int{8, 11}, Timers: 2, Samples: 1})
}
