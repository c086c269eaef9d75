package couriers

import (
	"reflect"
	"testing"

	"couriers/api"
)

// field is one field of a Config and the numbers that it may have in plain().
type field struct {
	name            string
	at              func(c *api.Config) *int
	least, greatest int
	errno           api.Errno
}

func fields() []field {
	return []field{
		{"Deposit", func(c *api.Config) *int { return &c.Deposit }, 0, 1000, api.ErrUnits},
		{"Cost", func(c *api.Config) *int { return &c.Cost }, 1, 1000, api.ErrUnits},
		{"Cap", func(c *api.Config) *int { return &c.Cap }, 0, 1000, api.ErrUnits},
		{"Window", func(c *api.Config) *int { return &c.Window }, 1, 10000, api.ErrSpan},
		{"Base", func(c *api.Config) *int { return &c.Base }, 1, 10000, api.ErrSpan},
		{"Most", func(c *api.Config) *int { return &c.Most }, 5, 10000, api.ErrSpan},
		{"Attempts", func(c *api.Config) *int { return &c.Attempts }, 1, 6, api.ErrCount},
		{"Flight", func(c *api.Config) *int { return &c.Flight }, 1, 8, api.ErrCount},
		{"Rank", func(c *api.Config) *int { return &c.Rank }, 1, 100, api.ErrCount},
		{"Samples", func(c *api.Config) *int { return &c.Samples }, 0, 32, api.ErrCount},
	}
}

// plain has a Most that leaves Base its whole range.
func plain() api.Config {
	return api.Config{Deposit: 1, Cost: 2, Cap: 10, Window: 100, Attempts: 3, Flight: 2, Base: 5, Most: 10000, Rank: 95, Samples: 1}
}

func farNumbers() []int {
	return []int{-1 << 63, -1<<63 + 1, -1 << 62, -1 << 32, -1 << 31, 1 << 31, 1 << 32, 1<<32 + 1, 1 << 40, 1 << 62, 1<<63 - 1}
}

func (f field) wrongNumbers() []int {
	return append(farNumbers(), f.least-1, f.greatest+1)
}

func expectNew(t *testing.T, c api.Config, want api.Errno) {
	t.Helper()
	client, errno := New(c)
	if errno != want {
		t.Errorf("P3: New(%+v) tells %d, want %d", c, errno, want)
	}
	if (client != nil) != (want == api.OK) {
		t.Errorf("P1: New(%+v) gives a client: %v, with the error %d", c, client != nil, errno)
	}
}

func TestNewAtTheEdgesOfEachField(t *testing.T) {
	expectNew(t, plain(), api.OK)
	for _, f := range fields() {
		for _, number := range []int{f.least, f.least + 1, f.greatest - 1, f.greatest} {
			c := plain()
			*f.at(&c) = number
			expectNew(t, c, api.OK)
		}
		for _, number := range f.wrongNumbers() {
			c := plain()
			*f.at(&c) = number
			expectNew(t, c, f.errno)
		}
	}
}

func TestNewHoldsMostAgainstBase(t *testing.T) {
	for _, x := range []struct {
		base, most int
		want       api.Errno
	}{
		{1, 1, api.OK}, {1, 0, api.ErrSpan}, {1, 10000, api.OK},
		{7, 7, api.OK}, {7, 6, api.ErrSpan}, {7, 8, api.OK},
		{10000, 10000, api.OK}, {10000, 9999, api.ErrSpan}, {10000, 10001, api.ErrSpan},
		{10001, 10001, api.ErrSpan}, {0, 0, api.ErrSpan}, {-3, -2, api.ErrSpan},
		{0, 5, api.ErrSpan}, {-1 << 63, 5, api.ErrSpan}, {-1 << 63, 1<<63 - 1, api.ErrSpan},
	} {
		c := plain()
		c.Base, c.Most = x.base, x.most
		expectNew(t, c, x.want)
	}
}

// All fields at their least and all at their greatest: no check leans on another field but Most on Base.
func TestNewWithAllFieldsAtAnEdge(t *testing.T) {
	var least, greatest api.Config
	for _, f := range fields() {
		*f.at(&least) = f.least
		*f.at(&greatest) = f.greatest
	}
	expectNew(t, least, api.OK)
	expectNew(t, greatest, api.OK)
}

// Every set of fields is made wrong, above and below: the least number of their errors is told.
func TestNewTellsTheFirstError(t *testing.T) {
	all := fields()
	for set := range 1 << len(all) {
		below, above, want := plain(), plain(), api.OK
		for i, f := range all {
			if set>>i&1 == 0 {
				continue
			}
			*f.at(&below) = f.least - 1
			*f.at(&above) = f.greatest + 1
			if want == api.OK || f.errno < want {
				want = f.errno
			}
		}
		expectNew(t, below, want)
		expectNew(t, above, want)
	}
	expectNew(t, api.Config{}, api.ErrUnits)
}

func TestNewClientHasNothing(t *testing.T) {
	for _, f := range fields() {
		for _, number := range []int{f.least, f.greatest} {
			c := plain()
			*f.at(&c) = number
			client, errno := New(c)
			if errno != api.OK {
				t.Fatalf("P3: New(%+v) tells %d", c, errno)
			}
			s := client.State()
			if s.Now != 0 || s.Balance != 0 || len(s.Calls) != 0 || len(s.Attempts) != 0 || s.Timers != 0 || s.Samples != 0 || s.Stale != 0 {
				t.Errorf("P3: a new client of %+v has %+v", c, s)
			}
		}
	}
}

func TestClientsAreApart(t *testing.T) {
	a, _ := New(plain())
	b, _ := New(plain())
	if a == b {
		t.Fatal("P2: two calls of New give one client")
	}
	before := b.State()
	a.Step(api.Event{Kind: api.Submit, Call: 7, Timeout: 50, Safe: true})
	a.Step(api.Event{Kind: api.Advance, To: 5})
	if after := b.State(); !reflect.DeepEqual(before, after) {
		t.Errorf("P2: a step of one client turns another from %+v to %+v", before, after)
	}
}

func TestCallsEndAtFarNumbers(t *testing.T) {
	client, _ := New(plain())
	for _, number := range append(farNumbers(), -1, 0, 1, 7) {
		for kind := -1; kind <= 8; kind++ {
			client.Step(api.Event{Kind: kind, Call: number, Attempt: number, Value: number, Timeout: number, Safe: number%2 == 0, Draw: uint64(number), To: number})
			client.State()
		}
		client.Step(api.Event{Kind: number})
		Bucket(number)
	}
}

func expectBucket(t *testing.T, time, least, greatest int) {
	t.Helper()
	if a, b := Bucket(time); a != least || b != greatest {
		t.Errorf("P7: Bucket(%d) = %d, %d, want %d, %d", time, a, b, least, greatest)
	}
}

func TestBucketOfTheExamples(t *testing.T) {
	expectBucket(t, 5, 5, 5)
	expectBucket(t, 9, 8, 9)
	expectBucket(t, 100, 96, 111)
}

func TestBucketOfSmallTimes(t *testing.T) {
	for time := 0; time <= 7; time++ {
		expectBucket(t, time, time, time)
	}
}

// The buckets are laid end to end by the words of the document: four of each power of two.
func TestBucketAtTheEdges(t *testing.T) {
	least := 4
	for e := 2; e < 40; e++ {
		width := 1 << e / 4
		for range 4 {
			greatest := least + width - 1
			expectBucket(t, least, least, greatest)
			expectBucket(t, least+width/2, least, greatest)
			expectBucket(t, greatest, least, greatest)
			least = greatest + 1
		}
	}
	if least != api.MaxTime {
		t.Fatalf("the buckets end at %d", least)
	}
	expectBucket(t, api.MaxTime, api.MaxTime, api.MaxTime+1<<38-1)
}

func TestBucketOfWhatIsNoTime(t *testing.T) {
	for _, time := range append(farNumbers(), -1, -2, -5, -100, -api.MaxTime, api.MaxTime+1, api.MaxTime+2, 2*api.MaxTime) {
		if time < 0 || time > 1<<40 {
			expectBucket(t, time, 0, 0)
		}
	}
}
