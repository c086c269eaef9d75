// Package heap: a heap of things that know which of two comes first.
package heap

import "slices"

// Item is what a heap may hold.
type Item[T any] interface {
	Before(other T) bool
}

// Heap has its first item at hand. The zero Heap is empty.
type Heap[T Item[T]] struct {
	items []T // none comes before its parent, which stands at half its place
}

// Len is how many items there are.
func (h *Heap[T]) Len() int { return len(h.items) }

// Push puts an item in.
func (h *Heap[T]) Push(item T) {
	h.items = append(h.items, item)
	h.rise(len(h.items) - 1)
}

// First gives the item that comes before all others, and whether there is one.
func (h *Heap[T]) First() (T, bool) {
	if len(h.items) == 0 {
		var none T
		return none, false
	}
	return h.items[0], true
}

// Pop takes the first item out, if there is one.
func (h *Heap[T]) Pop() (T, bool) {
	first, ok := h.First()
	if !ok {
		return first, false
	}
	last := len(h.items) - 1
	h.items[0] = h.items[last]
	// The place that is left free must not hold on to what the item points at.
	clear(h.items[last:])
	h.items = h.items[:last]
	h.sink(0)
	return first, true
}

// Drop takes out all items that are to go.
func (h *Heap[T]) Drop(goes func(T) bool) {
	h.items = slices.DeleteFunc(h.items, goes)
	// What is left may stand anywhere, so the heap is made anew from its lowest parents up.
	for place := len(h.items)/2 - 1; place >= 0; place-- {
		h.sink(place)
	}
}

func (h *Heap[T]) rise(place int) {
	for place > 0 {
		parent := (place - 1) / 2
		if !h.items[place].Before(h.items[parent]) {
			return
		}
		h.swap(place, parent)
		place = parent
	}
}

func (h *Heap[T]) sink(place int) {
	for {
		child := h.firstChild(place)
		if child >= len(h.items) || !h.items[child].Before(h.items[place]) {
			return
		}
		h.swap(place, child)
		place = child
	}
}

// firstChild is the place of the child that comes first; where there is none, it is outside of the heap.
func (h *Heap[T]) firstChild(place int) int {
	left, right := 2*place+1, 2*place+2
	if right < len(h.items) && h.items[right].Before(h.items[left]) {
		return right
	}
	return left
}

func (h *Heap[T]) swap(a, b int) {
	h.items[a], h.items[b] = h.items[b], h.items[a]
}
