package times

import (
	"slices"

	"couriers/api"
)

// Measured is the last times that were measured, at most MaxSamples of them.
type Measured struct {
	last []int
}

// Add counts a time.
func (m *Measured) Add(time int) {
	if len(m.last) == api.MaxSamples {
		m.last = slices.Delete(m.last, 0, 1)
	}
	m.last = append(m.last, time)
}

// Count is how many times are kept.
func (m *Measured) Count() int { return len(m.last) }
