package heap_test

import (
	"testing"

	"treadwheel/api"
	"treadwheel/cost"
	"treadwheel/heap"
)

// costs tells t where f costs not from least to most.
func costs(t *testing.T, what string, h *heap.Heap, least, most int64, f func()) {
	t.Helper()
	h.Cost().Mark()
	f()
	if got := h.Cost().Mark(); got < least || got > most {
		t.Errorf("W3: %s costs %d, not %d to %d", what, got, least, most)
	}
}

func TestCostOfWords(t *testing.T) {
	h := heap.New(api.Config{Cells: [api.Sizes]int{100, 100, 100, 100, 200}, Pace: 1})
	for fields := range 63 {
		words := int64(4)
		for words < int64(fields)+2 {
			words *= 2
		}
		costs(t, "an Alloc", h, int64(fields)+1, words, func() { h.Alloc(1, fields) })
		id := firstID + fields
		for i := range fields {
			costs(t, "a Get", h, 1, 2, func() { h.Get(id, i) })
			costs(t, "a Put", h, 1, 2, func() { h.Put(id, i, 9) })
		}
		costs(t, "Class", h, 1, 1, func() { h.Class(id) })
		costs(t, "Fields", h, 1, 1, func() { h.Fields(id) })
	}
	h.Flip()
	for fields := range 63 {
		h.Hold([]uint32{oop(firstID + fields)})
		words := int64(4)
		for words < int64(fields)+2 {
			words *= 2
		}
		costs(t, "a Scan of a cell", h, int64(fields)+1, words, func() { h.Scan(1) })
	}
	costs(t, "a Scan of none", h, 0, 0, func() { h.Scan(1) })
}

// A refused call leaves nothing that can be told, no cost either.
func TestCostOfRefused(t *testing.T) {
	h := heap.New(api.Config{Cells: [api.Sizes]int{2}, Pace: 1})
	h.Alloc(1, 2)
	h.Alloc(1, 2)
	h.Flip()
	h.Hold([]uint32{oop(4)})
	costs(t, "what is refused", h, 0, 0, func() {
		h.Alloc(-1, 2)
		h.Alloc(1, -1)
		h.Alloc(1, 62)
		h.Alloc(1, 2)
		for _, id := range append([]int{6, 1023}, wrong...) {
			h.Get(id, 0)
			h.Put(id, 0, 9)
			h.Class(id)
			h.Fields(id)
			h.Swap(id, 4)
			h.Swap(5, id)
		}
		h.Get(4, 2)
		h.Get(4, -1)
		h.Put(4, 2, 9)
		h.Put(4, -1, 9)
		h.Put(4, 0, 0)
		h.Flip()
		h.Scan(0)
		h.Scan(-1)
	})
}

// A Flip, and a Hold of many roots, are part of steps of every kind: however full the memory is, they leave a step its room.
func TestCostOfFlip(t *testing.T) {
	h := heap.New(api.Config{Cells: [api.Sizes]int{512, 508}, Pace: 1})
	var roots []uint32
	for range 1020 {
		id := h.Alloc(1, 2)
		if id < 0 {
			id = h.Alloc(1, 6)
		}
		roots = append(roots, oop(id))
	}
	half := int64(cost.Bound(api.Config{Cells: [api.Sizes]int{512, 508}, Pace: 1}, cost.Step) / 2)
	costs(t, "a Flip of all Black, and a Hold of all", h, 0, half, func() {
		h.Flip()
		h.Hold(roots)
	})
	h.Scan(1 << 20)
	h.Flip()
	costs(t, "a Flip that gives all back", h, 0, half, func() { h.Flip() })
	h.Alloc(1, 2)
	h.Alloc(1, 6)
	costs(t, "a Swap", h, 0, 2, func() { h.Swap(4, 5) })
	costs(t, "what tells colors", h, 0, 0, func() {
		h.IDs()
		h.Done()
		h.Color(4)
	})
}

// The greatest cell is given, and what its pace asks for is scanned, of cells of each size: the bound leaves room for a plain step beside.
func TestCostOfAlloc(t *testing.T) {
	cells := [api.Sizes]int{300, 150, 80, 40, 40}
	for pace := 1; pace <= api.MaxPace; pace++ {
		for size, n := range cells {
			c := api.Config{Cells: cells, Pace: pace}
			h := heap.New(c)
			var roots []uint32
			for range n - 1 {
				roots = append(roots, oop(h.Alloc(1, wordsOf[size]-2)))
			}
			h.Flip()
			h.Hold(roots)
			most := int64(cost.Bound(c, cost.Alloc) - cost.Bound(c, cost.Step))
			costs(t, "an Alloc and its Scan", h, 0, most, func() {
				h.Alloc(1, 62)
				h.Scan(64*pace - 1)
			})
		}
	}
}
