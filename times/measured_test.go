package times

import (
	"slices"
	"testing"

	"couriers/api"
)

func TestTheLastTimesAreKept(t *testing.T) {
	var m Measured
	var all []int
	for i := range 3 * api.MaxSamples {
		if want := min(i, 32); m.Count() != want {
			t.Errorf("behind %d times %d are kept", i, m.Count())
		}
		time := i * 37 % 101
		m.Add(time)
		all = append(all, time)
		if want := all[max(0, len(all)-32):]; !slices.Equal(m.last, want) {
			t.Errorf("behind %v the times %v are kept", all, m.last)
		}
	}
	if cap(m.last) > 2*api.MaxSamples {
		t.Errorf("there is room for %d times", cap(m.last))
	}
}

// count gives the times from least to greatest, one each.
func count(least, greatest int) []int {
	var list []int
	for time := least; time <= greatest; time++ {
		list = append(list, time)
	}
	return list
}

func TestDelay(t *testing.T) {
	for _, x := range []struct {
		times       []int
		rank, delay int
	}{
		// One time.
		{[]int{9}, 1, 9}, {[]int{9}, 50, 9}, {[]int{9}, 95, 9}, {[]int{9}, 100, 9},
		{[]int{0}, 1, 0}, {[]int{0}, 100, 0}, {[]int{1}, 50, 1}, {[]int{3}, 50, 3}, {[]int{4}, 50, 4},
		{[]int{8}, 50, 9}, {[]int{100}, 50, 111}, {[]int{10000}, 50, 10239},
		// A few, in no order.
		{[]int{3, 1, 2}, 1, 1}, {[]int{3, 1, 2}, 50, 2}, {[]int{3, 1, 2}, 95, 3}, {[]int{3, 1, 2}, 100, 3},
		{[]int{3, 1, 2}, 33, 1}, {[]int{3, 1, 2}, 34, 2}, {[]int{3, 1, 2}, 66, 2}, {[]int{3, 1, 2}, 67, 3},
		{[]int{5, 3}, 50, 3}, {[]int{5, 3}, 51, 5}, {[]int{3, 5}, 50, 3}, {[]int{3, 5}, 51, 5},
		{[]int{7, 6, 5, 4}, 25, 4}, {[]int{7, 6, 5, 4}, 26, 5}, {[]int{7, 6, 5, 4}, 50, 5}, {[]int{7, 6, 5, 4}, 75, 6}, {[]int{7, 6, 5, 4}, 76, 7},
		{count(1, 20), 95, 19}, {count(1, 20), 94, 19}, {count(1, 20), 96, 23}, {count(1, 20), 5, 1}, {count(1, 20), 6, 2},
		// Alike, in one bucket, and among them 0.
		{[]int{7, 7, 7}, 1, 7}, {[]int{7, 7, 7}, 50, 7}, {[]int{7, 7, 7}, 100, 7},
		{[]int{5, 7, 7, 7}, 25, 5}, {[]int{5, 7, 7, 7}, 26, 7}, {[]int{7, 7, 7, 20}, 75, 7},
		{[]int{8, 9, 8}, 1, 9}, {[]int{111, 96, 100}, 1, 111}, {[]int{111, 96, 100}, 100, 111},
		{[]int{5, 0}, 50, 0}, {[]int{0, 5}, 51, 5}, {[]int{0, 0, 0}, 95, 0},
		// As many as are kept, and more.
		{count(1, 31), 100, 31}, {count(1, 31), 1, 1}, {count(1, 31), 50, 19},
		{count(1, 32), 1, 1}, {count(1, 32), 3, 1}, {count(1, 32), 4, 2}, {count(1, 32), 50, 19}, {count(1, 32), 62, 23}, {count(1, 32), 63, 23},
		{count(1, 32), 95, 31}, {count(1, 32), 96, 31}, {count(1, 32), 97, 39}, {count(1, 32), 100, 39},
		{count(1, 33), 1, 2}, {count(1, 34), 1, 3}, {count(1, 33), 50, 19}, {count(1, 80), 1, 55}, {count(1, 80), 100, 95},
		{append([]int{1000}, slices.Repeat([]int{5}, 32)...), 100, 5}, {append([]int{1000}, slices.Repeat([]int{5}, 31)...), 100, 1023},
		{append(slices.Repeat([]int{5}, 32), 1000), 100, 1023}, {append(slices.Repeat([]int{5}, 32), 1000), 96, 5}, {append(slices.Repeat([]int{5}, 32), 1000), 97, 1023},
	} {
		var m Measured
		for _, time := range x.times {
			m.Add(time)
		}
		before := slices.Clone(m.last)
		if got := m.Delay(x.rank); got != x.delay {
			t.Errorf("P5: the delay of %v at rank %d is %d, want %d", x.times, x.rank, got, x.delay)
		}
		if !slices.Equal(m.last, before) {
			t.Errorf("P5: asked for the delay, %v turns to %v: which is the oldest is lost", before, m.last)
		}
	}
}

// The place is the least whole number that is not below rank of a hundred.
func TestDelayAtEveryRank(t *testing.T) {
	var m Measured
	for n := 1; n <= api.MaxSamples; n++ {
		m.Add(1000 * n)
		for rank := 1; rank <= 100; rank++ {
			place := 1
			for 100*place < n*rank {
				place++
			}
			if _, want := Bucket(1000 * place); m.Delay(rank) != want {
				t.Errorf("P5: the delay of %d times at rank %d is %d, want %d", n, rank, m.Delay(rank), want)
			}
		}
	}
}
