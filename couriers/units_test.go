package couriers

import (
	"testing"

	"couriers/api"
)

func TestWhatACallBrings(t *testing.T) {
	for _, x := range []struct {
		deposit, most int
		balances      [3]int
	}{
		{3, 8, [3]int{3, 6, 8}},
		{3, 7, [3]int{3, 6, 7}},
		{3, 6, [3]int{3, 6, 6}},
		{9, 7, [3]int{7, 7, 7}},
		{0, 7, [3]int{0, 0, 0}},
		{7, 0, [3]int{0, 0, 0}},
		{1000, 1000, [3]int{1000, 1000, 1000}},
	} {
		c := rich()
		c.Deposit, c.Cap = x.deposit, x.most
		w := start(t, c)
		for i, balance := range x.balances {
			w.does(submit(i, 50), launch(i, i+1, 50))
			w.hasBalance(balance)
		}
	}
}

func TestARefusedCallBringsNothing(t *testing.T) {
	c := rich()
	c.Flight = 1
	w := start(t, c)
	w.does(submit(1, 0), refuse(1, api.NoTimeout))
	w.hasBalance(0)
	w.does(submit(1, 50), launch(1, 1, 50))
	w.does(submit(1, 50), refuse(1, api.Known))
	w.does(submit(2, 50), refuse(2, api.Full))
	w.hasBalance(100)
}

func TestUnitsAreGoneWhenWindowHasGoneBy(t *testing.T) {
	c := rich()
	c.Deposit, c.Cap, c.Window = 3, 5, 10
	w := start(t, c)
	w.does(to(4))
	w.does(submit(1, 100), launch(1, 1, 100))
	w.does(to(6))
	w.does(submit(2, 100), launch(2, 2, 100))
	w.hasBalance(5)
	w.does(to(13))
	w.hasBalance(5)
	w.does(to(14))
	w.hasBalance(2)
	w.does(submit(3, 100), launch(3, 3, 100))
	w.hasBalance(5)
	w.does(to(16))
	w.hasBalance(3)
	w.does(to(24))
	w.hasBalance(0)
}

// A result of the call that brought them does not take its units along.
func TestUnitsOutliveTheirCall(t *testing.T) {
	w := start(t, rich())
	w.does(submit(1, 100), launch(1, 1, 100))
	w.does(ok(1, 0), done(1, 0))
	w.does(submit(2, 100), launch(2, 2, 100))
	w.does(cancel(2), cancelled(2), stop(2, 2))
	w.hasBalance(200)
	w.does(to(9999))
	w.hasBalance(200)
	w.does(to(10000))
	w.hasBalance(0)
}

func TestUnitsThatCameFirstAreTaken(t *testing.T) {
	c := rich()
	c.Deposit, c.Cost, c.Window, c.Base, c.Most = 3, 4, 10, 1, 1
	w := start(t, c)
	w.does(submit(1, 100), launch(1, 1, 100))
	w.does(to(2))
	w.does(submit(2, 100), launch(2, 2, 100))
	w.does(to(4))
	w.does(submit(3, 100), launch(3, 3, 100))
	w.does(nack(3, 0))
	w.does(to(5), launch(3, 4, 99))
	w.hasBalance(5)
	w.does(to(11))
	w.hasBalance(5)
	w.does(to(12))
	w.hasBalance(3)
	w.does(to(14))
	w.hasBalance(0)
}

// The units of a call are gone just when its wait ends, or one later.
func TestUnitsThatGoWhenTheWaitEnds(t *testing.T) {
	c := rich()
	c.Window = 5
	w := start(t, c)
	w.does(submit(1, 100), launch(1, 1, 100))
	w.does(nack(1, 0))
	w.does(to(5), failed(1))
	c.Window = 6
	w = start(t, c)
	w.does(submit(1, 100), launch(1, 1, 100))
	w.does(nack(1, 0))
	// The balance is asked at the timer's time, not at To.
	w.does(to(50), launch(1, 2, 95))
	w.hasBalance(0)
}

func TestABalanceOfJustCost(t *testing.T) {
	for _, x := range []struct {
		deposit int
		want    api.Action
		balance int
	}{{7, launch(1, 2, 95), 0}, {8, launch(1, 2, 95), 1}, {6, failed(1), 6}, {0, failed(1), 0}} {
		c := rich()
		c.Deposit, c.Cost = x.deposit, 7
		w := start(t, c)
		w.does(submit(1, 100), launch(1, 1, 100))
		w.does(nack(1, 0))
		w.hasBalance(x.deposit)
		w.does(to(5), x.want)
		w.hasBalance(x.balance)
	}
}

// The balance is asked when the wait ends, not when it begins.
func TestUnitsThatComeDuringTheWait(t *testing.T) {
	c := rich()
	c.Deposit, c.Cost = 3, 6
	w := start(t, c)
	w.does(submit(1, 100), launch(1, 1, 100))
	w.does(nack(1, 0))
	w.does(submit(2, 100), launch(2, 2, 100))
	w.does(to(5), launch(1, 3, 95))
	w.hasBalance(0)
}

// Two waits end at the same time, and there are units for one: the one that was set earlier has them.
func TestUnitsForOneOfTwo(t *testing.T) {
	c := rich()
	c.Deposit, c.Cost = 2, 3
	w := start(t, c)
	w.does(submit(1, 100), launch(1, 1, 100))
	w.does(submit(2, 100), launch(2, 2, 100))
	w.does(nack(2, 0))
	w.does(nack(1, 0))
	w.does(to(5), launch(2, 3, 95), failed(1))
	w.is(api.State{Now: 5, Balance: 1, Calls: []int{2}, Attempts: []int{3}, Timers: 1})
}
