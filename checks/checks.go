// Package checks: what may be wrong with a Config (P3).
package checks

import (
	"strconv"

	"couriers/api"
)

// OutOfRange is what a check found: a field whose number may not be.
type OutOfRange struct {
	Field    string
	Number   int
	Least    int
	Greatest int
}

func (o *OutOfRange) Error() string {
	return o.Field + " is " + strconv.Itoa(o.Number) + ", not " + strconv.Itoa(o.Least) + " to " + strconv.Itoa(o.Greatest)
}

// Fault is an error that knows its number and wraps what was found.
type Fault struct {
	Errno api.Errno
	Found error
}

func (f *Fault) Error() string {
	return "error " + strconv.Itoa(int(f.Errno)) + ": " + f.Found.Error()
}

func (f *Fault) Unwrap() error { return f.Found }

// Config gives the first Fault of a Config, or nil.
func Config(c api.Config) error {
	// The order is a promise: units are told ahead of spans, spans ahead of counts.
	return first(units(c), spans(c), counts(c))
}

func units(c api.Config) error {
	return fault(api.ErrUnits, first(
		within("Deposit", c.Deposit, 0, api.MaxUnits),
		within("Cost", c.Cost, 1, api.MaxUnits),
		within("Cap", c.Cap, 0, api.MaxUnits),
	))
}

func spans(c api.Config) error {
	return fault(api.ErrSpan, first(
		within("Window", c.Window, 1, api.MaxSpan),
		within("Base", c.Base, 1, api.MaxSpan),
		within("Most", c.Most, c.Base, api.MaxSpan),
	))
}

func counts(c api.Config) error {
	return fault(api.ErrCount, first(
		within("Attempts", c.Attempts, 1, api.MaxAttempts),
		within("Flight", c.Flight, 1, api.MaxFlight),
		within("Rank", c.Rank, 1, 100),
		within("Samples", c.Samples, 0, api.MaxSamples),
	))
}

func within(field string, number, least, greatest int) error {
	if number < least || number > greatest {
		return &OutOfRange{Field: field, Number: number, Least: least, Greatest: greatest}
	}
	return nil
}

func fault(number api.Errno, found error) error {
	// A nil *Fault in an error would not be nil.
	if found == nil {
		return nil
	}
	return &Fault{Errno: number, Found: found}
}

func first(errs ...error) error {
	for _, err := range errs {
		if err != nil {
			return err
		}
	}
	return nil
}
