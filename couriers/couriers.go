// Package couriers: a client that tries again where it may: see DOC.md.
package couriers

import (
	"errors"

	"couriers/api"
	"couriers/checks"
	"couriers/times"
)

// Client is calls, their attempts, and what they may cost.
type Client struct {
	config api.Config
}

// New makes a client (P3).
func New(c api.Config) (*Client, api.Errno) {
	if number := numberOf(checks.Config(c)); number != api.OK {
		return nil, number
	}
	return &Client{config: c}, api.OK
}

// Step tells what is to be done when something happens (P4 to P8).
func (c *Client) Step(e api.Event) []api.Action { return nil }

// State tells what there is (P9).
func (c *Client) State() api.State { return api.State{} }

// Bucket tells the least and the greatest time that counts as this one (P7).
func Bucket(time int) (int, int) { return times.Bucket(time) }

func numberOf(err error) api.Errno {
	var fault *checks.Fault
	if errors.As(err, &fault) {
		return fault.Errno
	}
	return api.OK
}
