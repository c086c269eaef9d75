// Package budget: the units that calls bring and further attempts take.
package budget

import "slices"

// Budget is the units that there are.
type Budget struct {
	deposit int
	most    int
	window  int
	row     []batch // by when they came, the earliest first; none is empty
}

// batch is the units that came with one call.
type batch struct {
	came  int
	units int
}

// New makes a budget without units: a call brings deposit of them, there are never more than most, and they last for window.
func New(deposit, most, window int) Budget {
	return Budget{deposit: deposit, most: most, window: window}
}

// Balance is how many units there are.
func (b *Budget) Balance() int {
	balance := 0
	for _, batch := range b.row {
		balance += batch.units
	}
	return balance
}

// Pass lets the time go on to now: units that came window ago are gone.
func (b *Budget) Pass(now int) {
	gone := 0
	for gone < len(b.row) && now-b.row[gone].came >= b.window {
		gone++
	}
	b.row = slices.Delete(b.row, 0, gone)
}

// Bring adds what a call brings now.
func (b *Budget) Bring(now int) {
	if units := min(b.deposit, b.most-b.Balance()); units > 0 {
		b.row = append(b.row, batch{came: now, units: units})
	}
}

// Take takes cost units, those that came first, or none, if there are fewer; it tells whether it took them.
func (b *Budget) Take(cost int) bool {
	if b.Balance() < cost {
		return false
	}
	empty := 0
	for cost > 0 {
		taken := min(cost, b.row[empty].units)
		b.row[empty].units -= taken
		cost -= taken
		if b.row[empty].units == 0 {
			empty++
		}
	}
	b.row = slices.Delete(b.row, 0, empty)
	return true
}
