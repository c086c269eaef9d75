package times

import (
	"slices"

	"couriers/api"
)

// Measured is the last times that were measured, at most MaxSamples of them.
type Measured struct {
	last []int
}

// Add counts a time.
func (m *Measured) Add(time int) {
	if len(m.last) == api.MaxSamples {
		m.last = slices.Delete(m.last, 0, 1)
	}
	m.last = append(m.last, time)
}

// Count is how many times are kept.
func (m *Measured) Count() int { return len(m.last) }

// Delay is how long an attempt may last before another is sent beside it: of all times in order the one at rank of a hundred is taken, and the greatest number of its bucket is told. There must be a time, and rank is 1 to 100.
func (m *Measured) Delay(rank int) int {
	rising := slices.Sorted(slices.Values(m.last))
	place := (len(rising)*rank + 99) / 100
	_, greatest := Bucket(rising[place-1])
	return greatest
}
