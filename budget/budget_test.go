package budget

import "testing"

func expectBalance(t *testing.T, b *Budget, want int) {
	t.Helper()
	if got := b.Balance(); got != want {
		t.Errorf("the balance is %d, want %d", got, want)
	}
}

func expectTake(t *testing.T, b *Budget, cost int, want bool) {
	t.Helper()
	before := b.Balance()
	if got := b.Take(cost); got != want {
		t.Errorf("Take(%d) = %v at the balance %d", cost, got, before)
	}
	if want {
		before -= cost
	}
	expectBalance(t, b, before)
}

func TestBringUpToTheMost(t *testing.T) {
	for _, x := range []struct {
		deposit, most int
		balances      [4]int
	}{
		{3, 8, [4]int{3, 6, 8, 8}},
		{4, 8, [4]int{4, 8, 8, 8}},
		{9, 8, [4]int{8, 8, 8, 8}},
		{0, 8, [4]int{}},
		{3, 0, [4]int{}},
		{1000, 1000, [4]int{1000, 1000, 1000, 1000}},
	} {
		b := New(x.deposit, x.most, 10)
		expectBalance(t, &b, 0)
		for now, want := range x.balances {
			b.Bring(now)
			expectBalance(t, &b, want)
		}
	}
}

func TestUnitsGoWhenTheWindowHasGoneBy(t *testing.T) {
	b := New(3, 8, 10)
	for _, now := range []int{100, 100, 104} {
		b.Pass(now)
		b.Bring(now)
	}
	for _, x := range []struct{ now, want int }{{104, 8}, {109, 8}, {110, 2}, {113, 2}, {114, 0}, {1 << 40, 0}} {
		b.Pass(x.now)
		expectBalance(t, &b, x.want)
	}
}

func TestAWindowOfOne(t *testing.T) {
	b := New(3, 8, 1)
	b.Bring(5)
	b.Pass(5)
	expectBalance(t, &b, 3)
	b.Pass(6)
	expectBalance(t, &b, 0)
}

func TestTakeOfThoseThatCameFirst(t *testing.T) {
	b := New(3, 100, 10)
	for now := range 3 {
		b.Bring(now)
	}
	expectTake(t, &b, 4, true)
	b.Pass(10)
	expectBalance(t, &b, 5)
	b.Pass(11)
	expectBalance(t, &b, 3)
	expectTake(t, &b, 3, true)
	b.Pass(12)
	expectBalance(t, &b, 0)
}

func TestTakeAtTheEdges(t *testing.T) {
	b := New(3, 100, 10)
	expectTake(t, &b, 1, false)
	b.Bring(0)
	b.Bring(0)
	expectTake(t, &b, 7, false)
	expectTake(t, &b, 6, true)
	expectTake(t, &b, 1, false)
	b.Bring(1)
	expectTake(t, &b, 2, true)
	expectTake(t, &b, 2, false)
	expectTake(t, &b, 1, true)
}

func TestWhatIsTakenMakesRoom(t *testing.T) {
	b := New(5, 5, 10)
	b.Bring(0)
	expectTake(t, &b, 2, true)
	b.Bring(4)
	expectBalance(t, &b, 5)
	b.Pass(10)
	expectBalance(t, &b, 2)
}

// No more is kept than there are units.
func TestTheRowIsShort(t *testing.T) {
	b := New(1, 7, 5)
	for now := range 10000 {
		b.Pass(now)
		b.Bring(now)
		b.Bring(now)
		if now%3 == 0 {
			b.Take(2)
		}
		if len(b.row) > 7 || cap(b.row) > 100 {
			t.Fatalf("the row has %d entries and room for %d", len(b.row), cap(b.row))
		}
	}
}
