package times

import (
	"slices"
	"testing"

	"couriers/api"
)

func TestTheLastTimesAreKept(t *testing.T) {
	var m Measured
	var all []int
	for i := range 3 * api.MaxSamples {
		if want := min(i, 32); m.Count() != want {
			t.Errorf("behind %d times %d are kept", i, m.Count())
		}
		time := i * 37 % 101
		m.Add(time)
		all = append(all, time)
		if want := all[max(0, len(all)-32):]; !slices.Equal(m.last, want) {
			t.Errorf("behind %v the times %v are kept", all, m.last)
		}
	}
	if cap(m.last) > 2*api.MaxSamples {
		t.Errorf("there is room for %d times", cap(m.last))
	}
}
