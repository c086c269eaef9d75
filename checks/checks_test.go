package checks

import (
	"errors"
	"testing"

	"couriers/api"
)

func plain() api.Config {
	return api.Config{Deposit: 1, Cost: 2, Cap: 10, Window: 100, Attempts: 3, Flight: 2, Base: 5, Most: 20, Rank: 95, Samples: 1}
}

func TestConfigWithoutFault(t *testing.T) {
	if err := Config(plain()); err != nil {
		t.Errorf("P3: Config(%+v) = %v, want nil", plain(), err)
	}
}

// Each fault knows its number, and what it wraps tells the field, its number and the bounds.
func TestConfigWrapsWhatItFound(t *testing.T) {
	for _, x := range []struct {
		turn  func(c *api.Config)
		errno api.Errno
		found OutOfRange
	}{
		{func(c *api.Config) { c.Deposit = -1 }, api.ErrUnits, OutOfRange{"Deposit", -1, 0, 1000}},
		{func(c *api.Config) { c.Cost = 0 }, api.ErrUnits, OutOfRange{"Cost", 0, 1, 1000}},
		{func(c *api.Config) { c.Cap = 1001 }, api.ErrUnits, OutOfRange{"Cap", 1001, 0, 1000}},
		{func(c *api.Config) { c.Window = 10001 }, api.ErrSpan, OutOfRange{"Window", 10001, 1, 10000}},
		{func(c *api.Config) { c.Base = 0 }, api.ErrSpan, OutOfRange{"Base", 0, 1, 10000}},
		{func(c *api.Config) { c.Most = 4 }, api.ErrSpan, OutOfRange{"Most", 4, 5, 10000}},
		{func(c *api.Config) { c.Attempts = 7 }, api.ErrCount, OutOfRange{"Attempts", 7, 1, 6}},
		{func(c *api.Config) { c.Flight = 9 }, api.ErrCount, OutOfRange{"Flight", 9, 1, 8}},
		{func(c *api.Config) { c.Rank = -1 << 63 }, api.ErrCount, OutOfRange{"Rank", -1 << 63, 1, 100}},
		{func(c *api.Config) { c.Samples = 1 << 62 }, api.ErrCount, OutOfRange{"Samples", 1 << 62, 0, 32}},
		{func(c *api.Config) { c.Rank, c.Window, c.Cap = 0, 0, -1 }, api.ErrUnits, OutOfRange{"Cap", -1, 0, 1000}},
		{func(c *api.Config) { c.Rank, c.Window = 0, 0 }, api.ErrSpan, OutOfRange{"Window", 0, 1, 10000}},
	} {
		c := plain()
		x.turn(&c)
		err := Config(c)
		var fault *Fault
		if !errors.As(err, &fault) || fault.Errno != x.errno {
			t.Errorf("P3: Config(%+v) = %v, want a Fault of number %d", c, err, x.errno)
		}
		var found *OutOfRange
		if !errors.As(err, &found) || *found != x.found {
			t.Errorf("P3: Config(%+v) = %v, want %+v to be found", c, err, x.found)
		}
	}
}

func TestTextOfAFault(t *testing.T) {
	c := plain()
	c.Deposit = 1001
	want := "error 1: Deposit is 1001, not 0 to 1000"
	if err := Config(c); err == nil || err.Error() != want {
		t.Errorf("Config(%+v) = %v, want %s", c, err, want)
	}
}
