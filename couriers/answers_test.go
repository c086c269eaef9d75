package couriers

import (
	"reflect"
	"testing"

	"couriers/api"
	"couriers/times"
)

func TestOk(t *testing.T) {
	w := start(t, rich())
	for i, value := range append(farNumbers(), -1, 0, 1) {
		attempt := i + 1
		w.does(submit(-3, 50), launch(-3, attempt, 50))
		w.does(ok(attempt, value), done(-3, value))
		w.is(api.State{Balance: min(100*attempt, 1000), Samples: attempt, Stale: i})
		w.isStale(ok(attempt, value))
	}
}

func TestOkOfACallThatIsNotSafe(t *testing.T) {
	w := start(t, rich())
	w.does(submitOnce(1, 50), launch(1, 1, 50))
	w.does(to(49))
	w.does(ok(1, 8), done(1, 8))
	w.is(api.State{Now: 49, Balance: 100, Samples: 1})
}

func TestAtMostMaxSamplesAreKept(t *testing.T) {
	w := start(t, rich())
	for i := 1; i <= 40; i++ {
		w.does(submit(1, 50), launch(1, i, 50))
		w.does(ok(i, 0), done(1, 0))
		if got := w.client.State().Samples; got != min(i, 32) {
			t.Errorf("P9: behind %d Oks %d times are kept", i, got)
		}
	}
}

func TestTheTimeFromLaunchToOkCounts(t *testing.T) {
	w := start(t, rich())
	var want times.Measured
	w.does(to(2))
	w.does(submit(1, 50), launch(1, 1, 50))
	w.does(submit(2, 50), launch(2, 2, 50))
	w.does(to(9))
	w.does(ok(2, 0), done(2, 0))
	want.Add(7)
	w.does(nack(1, 0))
	w.does(to(20), launch(1, 3, 38))
	w.does(ok(3, 0), done(1, 0))
	want.Add(6)
	if !reflect.DeepEqual(w.client.measured, want) {
		t.Errorf("P6: the times %v were measured, want %v", w.client.measured, want)
	}
}

// Only an Ok is measured.
func TestOtherEndsAreNotMeasured(t *testing.T) {
	w := start(t, rich())
	w.does(submitOnce(1, 50), launch(1, 1, 50))
	w.does(fail(1, 0), failed(1))
	w.does(submit(1, 50), launch(1, 2, 50))
	w.does(nack(2, 0))
	w.does(to(5), launch(1, 3, 45))
	w.does(fail(3, 0))
	w.does(to(10), launch(1, 4, 40))
	w.does(to(50), late(1), stop(1, 4))
	w.does(submit(1, 50), launch(1, 5, 50))
	w.does(cancel(1), cancelled(1), stop(1, 5))
	w.is(api.State{Now: 50, Balance: 298})
}

// Each kind of answer is stale of an attempt that is not open, whatever closed it.
func TestStaleAnswers(t *testing.T) {
	w := start(t, rich())
	stale := func(attempt int) {
		t.Helper()
		w.isStale(ok(attempt, 3))
		w.isStale(fail(attempt, 3))
		w.isStale(nack(attempt, 3))
	}
	for _, number := range append(farNumbers(), -1, 0, 1, 2) {
		stale(number)
	}
	w.does(submit(1, 50), launch(1, 1, 50))
	stale(2)
	w.does(nack(1, 0))
	stale(1)
	w.does(to(5), launch(1, 2, 45))
	stale(1)
	w.does(fail(2, 0))
	stale(2)
	w.does(to(10), launch(1, 3, 40))
	w.does(ok(3, 0), done(1, 0))
	stale(3)
	w.does(submitOnce(2, 50), launch(2, 4, 50))
	w.does(fail(4, 0), failed(2))
	stale(4)
	w.does(submit(2, 50), launch(2, 5, 50))
	w.does(cancel(2), cancelled(2), stop(2, 5))
	stale(5)
	w.does(submit(2, 1), launch(2, 6, 1))
	w.does(to(11), late(2), stop(2, 6))
	stale(6)
	stale(7)
	w.is(api.State{Now: 11, Balance: 398, Samples: 1, Stale: 15*3 + 8*3 + 3})
}

func TestFailOfACallThatIsNotSafe(t *testing.T) {
	w := start(t, rich())
	w.does(submitOnce(1, 1000), launch(1, 1, 1000))
	w.does(fail(1, 0), failed(1))
	w.is(api.State{Balance: 100})
	w.does(submitOnce(1, 1000), launch(1, 2, 1000))
	w.does(nack(2, 0))
	w.is(api.State{Balance: 200, Calls: []int{1}, Timers: 2})
	w.does(to(5), launch(1, 3, 995))
	w.does(fail(3, 0), failed(1))
	w.is(api.State{Now: 5, Balance: 199})
}

func TestFailAndNackOfASafeCall(t *testing.T) {
	for _, lost := range []func(int, uint64) api.Event{fail, nack} {
		w := start(t, rich())
		w.does(submit(1, 1000), launch(1, 1, 1000))
		w.does(lost(1, 0))
		w.is(api.State{Balance: 100, Calls: []int{1}, Timers: 2})
		w.does(to(4))
		w.does(to(5), launch(1, 2, 995))
		w.is(api.State{Now: 5, Balance: 99, Calls: []int{1}, Attempts: []int{2}, Timers: 1})
	}
}

// Each row has the waits of one call, behind one another.
func TestWaits(t *testing.T) {
	type turn struct {
		draw uint64
		wait int
	}
	for _, x := range []struct {
		base, most int
		turns      []turn
	}{
		{5, 20, []turn{{0, 5}, {1, 6}, {13, 18}, {49, 20}, {56, 5}}},
		{5, 1000, []turn{{10, 15}, {40, 45}, {130, 135}, {400, 405}, {1210, 1000}}},
		{5, 1000, []turn{{11, 5}, {21, 15}, {41, 5}, {12, 6}, {13, 18}}},
		// The last wait is what was waited, not what it would be without Most.
		{5, 7, []turn{{10, 7}, {17, 5}, {1, 6}, {15, 6}, {14, 5}}},
		{5, 6, []turn{{1, 6}, {13, 6}, {14, 5}, {2, 6}, {0, 5}}},
		{1, 1, []turn{{0, 1}, {1, 1}, {2, 1}, {3, 1}, {1<<64 - 1, 1}}},
		{1, 2, []turn{{3, 1}, {1, 2}, {6, 1}, {2, 2}, {5, 2}}},
		// 1<<64 - 1 is 4 modulo 11 and 5 modulo 23; 1<<63 is 8 modulo 11 and 8 modulo 35; 1<<63 - 1 is 7 modulo 11.
		{5, 1000, []turn{{1<<64 - 1, 9}, {1<<64 - 1, 10}}},
		{5, 1000, []turn{{1 << 63, 13}, {1 << 63, 13}}},
		{5, 1000, []turn{{1<<63 - 1, 12}}},
		{3000, 9000, []turn{{6000, 9000}}},
	} {
		c := rich()
		c.Base, c.Most = x.base, x.most
		w := start(t, c)
		w.does(submit(1, 10000), launch(1, 1, 10000))
		now := 0
		for i, turn := range x.turns {
			w.does(nack(i+1, turn.draw))
			now += turn.wait
			w.does(to(now - 1))
			w.does(to(now), launch(1, i+2, 10000-now))
		}
	}
}

// The last wait of one call is nothing to another.
func TestWaitsOfTwoCalls(t *testing.T) {
	c := rich()
	c.Most = 1000
	w := start(t, c)
	w.does(submit(1, 1000), launch(1, 1, 1000))
	w.does(submitOnce(2, 1000), launch(2, 2, 1000))
	w.does(nack(1, 10))
	w.does(nack(2, 11))
	w.does(to(5), launch(2, 3, 995))
	w.does(to(15), launch(1, 4, 985))
	w.does(nack(4, 11))
	w.does(nack(3, 12))
	w.does(to(21), launch(2, 5, 979))
	w.does(to(30))
	w.does(to(31), launch(1, 6, 969))
}

func TestAWaitThatEndsNearTheDeadline(t *testing.T) {
	for _, x := range []struct {
		timeout int
		draw    uint64
		waits   bool
	}{{10, 0, true}, {10, 4, true}, {10, 5, false}, {10, 6, false}, {10, 10, false}, {6, 0, true}, {5, 0, false}, {4, 0, false}, {1, 0, false}} {
		w := start(t, rich())
		w.does(submitOnce(1, x.timeout), launch(1, 1, x.timeout))
		if !x.waits {
			w.does(nack(1, x.draw), failed(1))
			w.is(api.State{Balance: 100})
			continue
		}
		w.does(nack(1, x.draw))
		w.hasTimers(2)
		end := 5 + int(x.draw)
		w.does(to(x.timeout-1), launch(1, 2, x.timeout-end))
		w.does(to(x.timeout), late(1), stop(1, 2))
	}
}

func TestTheGreatestWaits(t *testing.T) {
	c := rich()
	c.Base, c.Most = 10000, 10000
	w := start(t, c)
	w.does(submit(1, 10000), launch(1, 1, 10000))
	w.does(nack(1, 0), failed(1))
	c.Base, c.Most = 9999, 9999
	w = start(t, c)
	w.does(submit(1, 10000), launch(1, 1, 10000))
	w.does(nack(1, 1<<64-1))
	w.does(to(9998))
	w.does(to(9999), launch(1, 2, 1))
	w.does(nack(2, 1<<64-1), failed(1))
}

func TestAsManyAttemptsAsMayBe(t *testing.T) {
	for attempts := 1; attempts <= 6; attempts++ {
		c := rich()
		c.Attempts = attempts
		w := start(t, c)
		w.does(submit(1, 1000), launch(1, 1, 1000))
		for i := 1; i < attempts; i++ {
			w.does(nack(i, 0))
			w.does(to(5*i), launch(1, i+1, 1000-5*i))
		}
		w.does(nack(attempts, 0), failed(1))
		w.is(api.State{Now: 5*attempts - 5, Balance: 100 - (attempts - 1)})
	}
}
