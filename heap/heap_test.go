package heap

import (
	"slices"
	"testing"
)

type number int

func (n number) Before(other number) bool { return n < other }

type letter struct{ text *string }

func (l letter) Before(other letter) bool { return *l.text < *other.text }

// mixed gives count numbers in no order, some of them twice.
func mixed(count int) []number {
	var list []number
	for i := range count {
		list = append(list, number((i*i*7+i*13)%23))
	}
	return list
}

func popAll[T Item[T]](h *Heap[T]) []T {
	var list []T
	for {
		item, ok := h.Pop()
		if !ok {
			return list
		}
		list = append(list, item)
	}
}

func TestPopGivesTheItemsInOrder(t *testing.T) {
	for count := range 40 {
		var h Heap[number]
		want := mixed(count)
		for i, n := range want {
			h.Push(n)
			if first, ok := h.First(); !ok || first != slices.Min(want[:i+1]) {
				t.Errorf("First behind %v = %v, %v", want[:i+1], first, ok)
			}
		}
		if h.Len() != count {
			t.Errorf("Len = %d, want %d", h.Len(), count)
		}
		slices.Sort(want)
		if got := popAll(&h); !slices.Equal(got, want) {
			t.Errorf("popped %v, want %v", got, want)
		}
	}
}

func TestPushBetweenPops(t *testing.T) {
	var h Heap[number]
	var kept []number
	for i, n := range mixed(200) {
		h.Push(n)
		kept = append(kept, n)
		slices.Sort(kept)
		if i%3 == 0 {
			if got, ok := h.Pop(); !ok || got != kept[0] {
				t.Fatalf("popped %v, %v, want %v", got, ok, kept[0])
			}
			kept = kept[1:]
		}
	}
	if got := popAll(&h); !slices.Equal(got, kept) {
		t.Errorf("popped %v, want %v", got, kept)
	}
}

func TestDrop(t *testing.T) {
	for count := range 40 {
		for divisor := number(1); divisor <= 4; divisor++ {
			goes := func(n number) bool { return n%divisor == 0 }
			var h Heap[number]
			for _, n := range mixed(count) {
				h.Push(n)
			}
			h.Drop(goes)
			want := slices.DeleteFunc(mixed(count), goes)
			slices.Sort(want)
			if h.Len() != len(want) {
				t.Errorf("Len = %d, want %d", h.Len(), len(want))
			}
			if got := popAll(&h); !slices.Equal(got, want) {
				t.Errorf("popped %v, want %v", got, want)
			}
		}
	}
}

func TestEmptyHeap(t *testing.T) {
	var h Heap[number]
	h.Drop(func(number) bool { return true })
	if n, ok := h.First(); n != 0 || ok {
		t.Errorf("First = %v, %v", n, ok)
	}
	if n, ok := h.Pop(); n != 0 || ok {
		t.Errorf("Pop = %v, %v", n, ok)
	}
	if h.Len() != 0 {
		t.Errorf("Len = %d", h.Len())
	}
}

func TestItemsThatWentAreNotHeld(t *testing.T) {
	var h Heap[letter]
	for _, text := range []string{"c", "a", "d", "b"} {
		h.Push(letter{&text})
	}
	h.Pop()
	h.Drop(func(l letter) bool { return *l.text == "c" })
	for place, item := range h.items[:cap(h.items)] {
		if (item.text != nil) != (place < h.Len()) {
			t.Errorf("place %d of %d items holds %v", place, h.Len(), item)
		}
	}
}
