package heap_test

import (
	"math"
	"slices"
	"testing"

	"treadwheel/api"
	"treadwheel/heap"
)

func TestNew(t *testing.T) {
	for i, c := range []api.Config{
		{},
		{Pace: 1},
		{Cells: [api.Sizes]int{1}},
		{Cells: [api.Sizes]int{1}, Pace: -1},
		{Cells: [api.Sizes]int{1}, Pace: 17},
		{Cells: [api.Sizes]int{1}, Pace: math.MaxInt},
		{Cells: [api.Sizes]int{-1}, Pace: 1},
		{Cells: [api.Sizes]int{4, -1}, Pace: 1},
		{Cells: [api.Sizes]int{513}, Pace: 1},
		{Cells: [api.Sizes]int{0, 0, 0, 0, 513}, Pace: 1},
		{Cells: [api.Sizes]int{512, 509}, Pace: 1},
		{Cells: [api.Sizes]int{math.MaxInt, math.MaxInt, 3}, Pace: 1},
		{Cells: [api.Sizes]int{math.MinInt}, Pace: math.MinInt},
	} {
		if heap.New(c) != nil {
			t.Errorf("P9.1: New, wrong memory %d: not nil", i)
		}
	}
	for _, cells := range [][api.Sizes]int{{1}, {0, 0, 0, 0, 1}, {0, 3, 0, 2}, {512, 508}, {0, 0, 0, 508, 512}, {204, 204, 204, 204, 204}} {
		for _, pace := range []int{1, 16} {
			h := heap.New(api.Config{Cells: cells, Pace: pace})
			if h == nil {
				t.Fatalf("P9.1: New of %v, pace %d: nil", cells, pace)
			}
			if len(h.IDs()) != 0 || !h.Done() || h.Cost() == nil || h.Cost().Total() != 0 {
				t.Errorf("P9.1: a new memory of %v is not empty", cells)
			}
		}
	}
}

func TestAllocEachFields(t *testing.T) {
	b := newBoth(t, [api.Sizes]int{20, 20, 20, 20, 40})
	for fields := range 63 {
		if id := b.alloc(fields*65, fields); id != firstID+fields {
			t.Errorf("P9.1: Alloc of %d fields: %d", fields, id)
		}
	}
	b.same("objects of each number of fields")
	for _, id := range b.h.IDs() {
		if c := b.h.Color(id); c != black {
			t.Errorf("P9.2: a new object's color: %d", c)
		}
	}
}

func TestAllocWrong(t *testing.T) {
	b := newBoth(t, [api.Sizes]int{1, 1, 1, 1, 1})
	for _, class := range []int{-1, -2, 4096, 4097, 1 << 12, 1 << 16, 1 << 32, 1<<32 + 1, -1 << 32, 1 - 1<<32, math.MaxInt, math.MinInt} {
		if id := b.h.Alloc(class, 2); id != -1 {
			t.Errorf("P9.1: Alloc of class %d: %d", class, id)
		}
	}
	for _, fields := range []int{-1, -2, 63, 64, 255, 256, 258, 1 << 16, 1 << 32, 1<<32 + 2, -1 << 32, 2 - 1<<32, math.MaxInt, math.MaxInt - 1, math.MinInt} {
		if id := b.h.Alloc(1, fields); id != -1 {
			t.Errorf("P9.1: Alloc of %d fields: %d", fields, id)
		}
		if id := b.h.Alloc(-1, fields); id != -1 {
			t.Errorf("P9.1: Alloc of class -1, %d fields: %d", fields, id)
		}
	}
	b.same("Allocs that were refused")
	for i, fields := range []int{2, 6, 14, 30, 62} { // no cell was lost
		if id := b.alloc(4095*(i%2), fields); id != firstID+i {
			t.Errorf("P9.1: Alloc behind refused ones: %d", id)
		}
	}
	b.same("one object of each size")
}

// An object that fits into a size whose cells are all given gets none, though greater ones are Free.
func TestAllocOfItsSizeAlone(t *testing.T) {
	b := newBoth(t, [api.Sizes]int{2, 0, 1, 2, 0})
	for _, a := range []struct{ fields, want int }{
		{3, -1}, {6, -1}, {31, -1}, {62, -1}, {2, 4}, {0, 5}, {1, -1}, {2, -1}, {7, 6}, {14, -1}, {15, 7}, {30, 8}, {30, -1}, {15, -1}, {0, -1}, {3, -1}, {62, -1},
	} {
		if id := b.alloc(7, a.fields); id != a.want {
			t.Errorf("P9.1: Alloc of %d fields: %d, not %d", a.fields, id, a.want)
		}
	}
	b.same("a memory that is full")
}

func TestAllocAll(t *testing.T) {
	for _, cells := range [][api.Sizes]int{{512, 508}, {0, 0, 0, 508, 512}, {204, 204, 204, 204, 204}} {
		b := newBoth(t, cells)
		for size, n := range cells {
			for i := range n {
				if id := b.alloc(i, wordsOf[size]-2); id < 0 {
					t.Fatalf("P9.1: Alloc %d of size %d of %v: %d", i, size, cells, id)
				}
			}
			if id := b.alloc(0, wordsOf[size]-2); id != -1 {
				t.Errorf("P9.1: Alloc of size %d, where none is Free: %d", size, id)
			}
		}
		if ids := b.h.IDs(); len(ids) != 1020 || ids[0] != 4 || ids[1019] != 1023 {
			t.Errorf("P9.1: IDs of all: %v", ids)
		}
		b.same("all cells given")
		b.flip()
		if freed := b.flip(); freed != 1020 {
			t.Errorf("P9.2: Flip of all: %d", freed)
		}
		b.same("all given back")
		for size, n := range cells {
			if n > 0 {
				b.alloc(0, wordsOf[size]-2)
			}
		}
		b.same("one of each size behind a Flip of all")
	}
}

// What lay in a cell before is not seen by the object that gets it next.
func TestAllocClean(t *testing.T) {
	b := newBoth(t, [api.Sizes]int{1, 1, 1, 1, 1})
	for round := range 3 {
		for _, fields := range []int{2, 6, 14, 30, 62} {
			id := b.alloc(4095-round, fields)
			for i := range fields {
				b.put(id, i, uint32(1<<31+2*i+1))
			}
		}
		b.same("filled")
		b.flip()
		b.flip()
		for _, fields := range []int{1, 3, 7, 15, 31} {
			b.alloc(round, fields)
		}
		b.same("smaller ones where greater ones were")
		b.flip()
		b.flip()
		for _, fields := range []int{2, 6, 14, 30, 62} {
			b.alloc(0, fields)
		}
		b.same("greater ones where smaller ones were")
		b.flip()
		b.flip()
	}
}

func TestFieldsApart(t *testing.T) {
	cells := [api.Sizes]int{3, 3, 3, 3, 3}
	b := newBoth(t, cells)
	next := uint32(1)
	for size := range cells {
		for range 3 {
			id := b.alloc(int(next)%4096, wordsOf[size]-2)
			for i := range wordsOf[size] - 2 {
				b.put(id, i, next)
				next += 2
			}
		}
	}
	b.same("each field of each object another word")
	for _, id := range b.h.IDs() {
		b.put(id, 0, odd[id%len(odd)])
		b.put(id, 1, math.MaxUint32)
		b.same("one object's fields changed")
	}
}

func TestGetPutWrong(t *testing.T) {
	b := newBoth(t, [api.Sizes]int{2, 2, 0, 0, 2})
	small, greater, greatest := b.alloc(1, 1), b.alloc(2, 4), b.alloc(3, 62)
	for _, f := range []struct{ id, fields int }{{small, 1}, {greater, 4}, {greatest, 62}} {
		for _, i := range []int{math.MinInt, -1 << 32, -64, -2, -1, f.fields, f.fields + 1, f.fields + 2, 63, 64, 1 << 32, 1 << 62, math.MaxInt - 2, math.MaxInt - 1, math.MaxInt} {
			if w, ok := b.h.Get(f.id, i); w != 0 || ok {
				t.Errorf("P9.1: Get(%d, %d): %#x, %v", f.id, i, w, ok)
			}
			if b.h.Put(f.id, i, 9) {
				t.Errorf("P9.1: Put(%d, %d, 9): true", f.id, i)
			}
		}
		if b.h.Put(f.id, 0, 0) || b.h.Put(f.id, f.fields-1, 0) || b.h.Put(f.id, -1, 0) {
			t.Errorf("P9.1: Put of None: true")
		}
	}
	b.same("no fields, and None")
	b.put(greater, 2, 77)
	if b.h.Put(greater, 2, 0) || b.get(greater, 2) != 77 {
		t.Error("P9.1: Put of None is not nothing")
	}
	empty := b.alloc(0, 0)
	for _, i := range []int{-1, 0, 1} {
		if _, ok := b.h.Get(empty, i); ok || b.h.Put(empty, i, 9) {
			t.Errorf("P9.1: Get, Put of field %d of one without fields", i)
		}
	}
	b.same("the end")
}

func TestNone(t *testing.T) {
	b := newBoth(t, [api.Sizes]int{4, 0, 0, 0, 1})
	b.none("New", firstID)
	b.alloc(1, 2)
	b.alloc(1, 62)
	for _, id := range append([]int{6, 7, 1023}, wrong...) {
		b.none("two objects", id)
		if b.h.Swap(id, 4) || b.h.Swap(5, id) || b.h.Swap(id, id) {
			t.Errorf("P9.1: Swap with %d: true", id)
		}
	}
	b.same("nothing of what is not there")
	b.flip()
	b.hold(oop(5))
	b.scan(1)
	b.flip()
	b.none("one that was given back", 4)
	if b.h.Swap(4, 5) || b.h.Swap(5, 4) {
		t.Error("P9.1: Swap with one that was given back: true")
	}
	b.same("one is left")
}

func TestPutEachWord(t *testing.T) {
	b := newBoth(t, [api.Sizes]int{4})
	id := b.alloc(1, 2)
	b.alloc(1, 2)
	b.flip()
	b.hold(oop(id))
	b.scan(1)
	for _, w := range odd {
		b.put(id, 0, w)
		if got := b.get(id, 0); w != 0 && got != w {
			t.Errorf("P9.1: Get behind Put of %#x: %#x", w, got)
		}
		b.same("a word that leads nowhere")
	}
}

// made answers a memory that holds one object of 2 fields of each color that was asked, in that order, the first one 4.
// Beside them lie a Free cell of that size, and an Ecru object of another size, the last one.
func made(t *testing.T, colors ...int) *both {
	t.Helper()
	b := newBoth(t, [api.Sizes]int{8, 2, 0, 0, 0})
	for range colors {
		b.alloc(1, 2)
	}
	b.alloc(2, 5)
	b.flip()
	for i, color := range colors {
		if color == black {
			b.hold(oop(firstID + i))
		}
	}
	b.scan(1000)
	for i, color := range colors {
		if color == grey {
			b.hold(oop(firstID + i))
		}
	}
	for i, color := range colors {
		if got := b.h.Color(firstID + i); got != color {
			t.Fatalf("P9.2: Color of an object that was made of color %d: %d", color, got)
		}
	}
	b.same("made")
	return b
}

func TestPutShades(t *testing.T) {
	for _, from := range []int{black, grey, ecru} {
		for _, to := range []int{black, grey, ecru} {
			b := made(t, from, to)
			b.put(4, 1, oop(5))
			want := to
			if from == black && to == ecru {
				want = grey
			}
			if got := b.h.Color(5); got != want {
				t.Errorf("P9.2: Put into color %d of one of color %d: it is of color %d, not %d", from, to, got, want)
			}
			b.same("Put")
			b.put(4, 0, oop(6)) // of another size
			b.same("Put of another size")
			b.put(4, 0, oop(4))
			b.same("Put of itself")
		}
	}
}

// A number that is half an identity, a word beside it, a refused Put: nothing is shaded.
func TestPutShadesNothing(t *testing.T) {
	b := made(t, black, ecru)
	for _, w := range []uint32{oop(5) + 1, 5, oop(5) | 1<<31, oop(5) | 1<<12, oop(1024), 2, 4, 6, 8 + 1, 0} {
		b.put(4, 0, w)
		b.same("Put of what is not 5")
	}
	b.put(4, 2, oop(5))
	b.put(4, -1, oop(5))
	b.put(900, 0, oop(5))
	b.same("Put where no field is")
	if got := b.h.Color(5); got != ecru {
		t.Errorf("P9.2: Color of what was Put nowhere: %d", got)
	}
}

func TestSwap(t *testing.T) {
	for _, a := range []int{black, grey, ecru} {
		for _, c := range []int{black, grey, ecru} {
			b := made(t, a, c)
			b.put(4, 0, 101)
			b.put(5, 0, 201)
			wantA, wantC := a, c
			if a == ecru && c != ecru {
				wantA = grey
			}
			if c == ecru && a != ecru {
				wantC = grey
			}
			b.swap(4, 5)
			if got, other := b.h.Color(5), b.h.Color(4); got != wantA || other != wantC {
				t.Errorf("P9.2: Swap of colors %d and %d: they are %d and %d", a, c, got, other)
			}
			if b.get(4, 0) != 201 || b.get(5, 0) != 101 {
				t.Errorf("P9.1: Swap: fields %d and %d", b.get(4, 0), b.get(5, 0))
			}
			b.same("Swap")
			b.swap(6, 4)
			b.same("Swap with another size")
			if b.h.Fields(4) != 5 || b.h.Class(4) != 2 || b.h.Fields(6) != 2 || b.h.Class(6) != 1 {
				t.Error("P9.1: Swap with another size: class and fields do not go with the cell")
			}
			b.swap(5, 5)
			b.same("Swap with itself")
		}
	}
}

// A Swap that is refused shades nothing.
func TestSwapRefused(t *testing.T) {
	b := made(t, black, ecru, grey, ecru)
	for _, id := range append([]int{9, 1023}, wrong...) {
		for _, other := range []int{4, 5, 6, 7} {
			b.swap(id, other)
			b.swap(other, id)
		}
	}
	b.same("Swaps that are refused")
}

// Behind a Swap the cells are in the order in which they were, and are scanned so.
func TestSwapKeepsCells(t *testing.T) {
	b := made(t, grey, grey, grey, ecru)
	b.swap(4, 6)
	for _, want := range []int{6, 5, 4} {
		b.scan(1)
		if got := b.h.Color(want); got != black {
			t.Errorf("P9.2: Scan behind Swap: Color(%d): %d", want, got)
		}
		b.same("Scan behind Swap")
	}
}

func TestHold(t *testing.T) {
	b := made(t, black, grey, ecru, ecru, ecru)
	b.h.Hold(nil)
	b.hold()
	b.hold(odd...)
	b.hold(oop(6)+1, oop(6)|1<<31, oop(10), oop(1023), oop(1024))
	b.same("Hold of no objects")
	b.hold(oop(4), oop(5), oop(7), oop(7), 3, oop(9))
	b.same("Hold of each color")
	for id, want := range map[int]int{4: black, 5: grey, 6: ecru, 7: grey, 8: ecru, 9: grey} {
		if got := b.h.Color(id); got != want {
			t.Errorf("P9.2: Hold: Color(%d): %d, not %d", id, got, want)
		}
	}
	roots := append(make([]uint32, 0, 4), oop(6), 0)
	room := roots[:4]
	room[2], room[3] = oop(8), 77
	b.h.Hold(roots)
	b.m.hold([]uint32{oop(6)})
	if !slices.Equal(room, []uint32{oop(6), 0, oop(8), 77}) {
		t.Errorf("R2: Hold changed what was handed in: %v", room)
	}
	roots[0] = oop(8)
	b.same("Hold of one, with room behind")
}

func TestScanWords(t *testing.T) {
	for _, s := range []struct{ words, want int }{
		{math.MinInt, 0}, {-1 << 32, 0}, {1 - 1<<32, 0}, {-4, 0}, {-1, 0}, {0, 0},
		{1, 4}, {3, 4}, {4, 4}, {5, 8}, {8, 8}, {9, 16}, {15, 16}, {16, 16}, {17, 24}, {24, 24}, {25, 40}, {40, 40}, {41, 72}, {72, 72},
		{73, 136}, {135, 136}, {136, 136}, {137, 136}, {1 << 20, 136}, {1<<20 + 1, 136}, {1 << 32, 136}, {1<<32 + 1, 136}, {math.MaxInt, 136},
	} {
		b := newBoth(t, [api.Sizes]int{2, 2, 1, 1, 1})
		for _, fields := range []int{62, 30, 14, 6, 2, 6, 0} {
			b.alloc(1, fields)
		}
		b.flip()
		b.hold(oop(4), oop(5), oop(6), oop(7), oop(8), oop(9), oop(10))
		if got := b.scan(s.words); got != s.want {
			t.Errorf("P9.2: Scan(%d): %d, not %d", s.words, got, s.want)
		}
		b.same("Scan")
		b.scan(math.MaxInt)
		if !b.h.Done() || b.scan(64) != 0 {
			t.Errorf("P9.2: not Done behind a Scan of all")
		}
		b.same("Scan of all")
	}
}

// Each time the least size is scanned that has a Grey one by then: a great one that leads to a small one waits for it.
func TestScanLeastFirst(t *testing.T) {
	b := newBoth(t, [api.Sizes]int{2, 2, 2, 0, 2})
	great, other, middle, small, smaller := b.alloc(1, 40), b.alloc(1, 62), b.alloc(1, 14), b.alloc(1, 6), b.alloc(1, 1)
	b.put(great, 39, oop(middle))
	b.put(middle, 13, oop(smaller))
	b.put(middle, 0, oop(small))
	b.flip()
	b.hold(oop(other), oop(great))
	for i, s := range []struct{ id, words int }{{other, 64}, {great, 64}, {middle, 16}, {smaller, 4}, {small, 8}} {
		if got := b.h.Color(s.id); got != grey {
			t.Errorf("P9.2: ahead of Scan %d: Color(%d): %d", i, s.id, got)
		}
		if got := b.scan(1); got != s.words {
			t.Errorf("P9.2: Scan %d: %d words", i, got)
		}
		if got := b.h.Color(s.id); got != black {
			t.Errorf("P9.2: Scan %d: Color(%d): %d", i, s.id, got)
		}
		b.same("Scan")
	}
	if got := b.scan(1); got != 0 {
		t.Errorf("P9.2: Scan where none is Grey: %d", got)
	}
}

// A Scan looks at the fields of whose cell it is now: at all of these, the last ones too, and no further.
func TestScanFields(t *testing.T) {
	for _, fields := range []int{1, 2, 3, 6, 7, 14, 15, 30, 31, 61, 62} {
		for i := range fields {
			b := newBoth(t, [api.Sizes]int{3, 3, 3, 3, 3})
			from, to := b.alloc(1, fields), b.alloc(1, fields)
			b.put(from, i, oop(to))
			b.put(to, i, oop(to))
			b.flip()
			b.hold(oop(from))
			b.scan(1)
			if got := b.h.Color(to); got != grey {
				t.Fatalf("P9.2: Scan of field %d of %d: what it leads to is of color %d", i, fields, got)
			}
			b.same("Scan of one field")
			b.scan(1)
			if got := b.h.Color(to); got != black {
				t.Fatalf("P9.2: Scan of one that leads to itself: %d", got)
			}
		}
	}
	b := newBoth(t, [api.Sizes]int{2})
	great := b.alloc(1, 2)
	b.put(great, 0, oop(5))
	b.put(great, 1, oop(5))
	b.flip()
	b.flip()
	small, beside := b.alloc(1, 0), b.alloc(1, 1)
	b.put(small, 0, 9)
	b.flip()
	b.hold(oop(small))
	b.scan(1)
	if got := b.h.Color(beside); got != ecru {
		t.Errorf("P9.2: Scan of one without fields: the other one is of color %d", got)
	}
}

func TestScanOddWords(t *testing.T) {
	b := newBoth(t, [api.Sizes]int{1, 0, 0, 0, 1})
	id := b.alloc(1, 62)
	b.alloc(1, 0)
	words := append([]uint32{oop(5) + 1, oop(5) | 1<<31, oop(6), oop(1023), oop(1024)}, odd...)
	for i, w := range words {
		b.put(id, i, w)
	}
	b.flip()
	b.hold(oop(id))
	b.scan(1)
	b.same("Scan of words that lead nowhere")
}

func TestFlip(t *testing.T) {
	b := newBoth(t, [api.Sizes]int{3, 0, 2})
	if got := b.flip(); got != 0 {
		t.Errorf("P9.2: Flip of a new memory: %d", got)
	}
	for range 3 {
		b.alloc(5, 2)
	}
	b.alloc(6, 9)
	if got := b.flip(); got != 0 {
		t.Errorf("P9.2: Flip where all are Black: %d", got)
	}
	b.same("all are Ecru")
	b.hold(oop(5))
	for range 2 {
		if got := b.flip(); got != -1 {
			t.Errorf("P9.2: Flip with one Grey: %d", got)
		}
		b.same("Flip with one Grey")
	}
	b.scan(1)
	b.same("one is Black")
	if got := b.flip(); got != 3 {
		t.Errorf("P9.2: Flip of three: %d", got)
	}
	b.same("one is left")
	if ids := b.h.IDs(); !slices.Equal(ids, []int{5}) {
		t.Errorf("P9.2: IDs behind Flip: %v", ids)
	}
	for _, want := range []int{4, 6, -1} {
		if id := b.alloc(7, 1); id != want {
			t.Errorf("P9.2: Alloc behind Flip: %d, not %d", id, want)
		}
	}
	b.same("the freed ones are given again")
}

// One Grey cell of any size keeps every size from its Flip.
func TestFlipOfOneGrey(t *testing.T) {
	for size := range wordsOf {
		b := newBoth(t, [api.Sizes]int{1, 1, 1, 1, 1})
		for _, n := range wordsOf {
			b.alloc(1, n-2)
		}
		b.flip()
		b.hold(oop(firstID + size))
		if b.h.Done() {
			t.Errorf("P9.2: Done with one Grey of size %d", size)
		}
		if got := b.flip(); got != -1 {
			t.Errorf("P9.2: Flip with one Grey of size %d: %d", size, got)
		}
		b.same("nothing of any size")
		if got := b.scan(1); got != wordsOf[size] || !b.h.Done() {
			t.Errorf("P9.2: Scan of size %d: %d", size, got)
		}
		if got := b.flip(); got != 4 {
			t.Errorf("P9.2: Flip of four: %d", got)
		}
		b.same("one of size is left")
	}
}

func TestIDsNew(t *testing.T) {
	b := newBoth(t, [api.Sizes]int{3})
	b.alloc(1, 1)
	b.alloc(1, 1)
	row, other := b.h.IDs(), b.h.IDs()
	clear(row[:cap(row)])
	if !slices.Equal(other, []int{4, 5}) {
		t.Errorf("R2: two answers share memory: %v", other)
	}
	b.same("an answer that was written on")
}

func TestApart(t *testing.T) {
	a, b := newBoth(t, [api.Sizes]int{2, 1}), newBoth(t, [api.Sizes]int{2, 1})
	id := a.alloc(3, 2)
	a.put(id, 0, 9)
	b.same("a memory beside another one")
	b.alloc(4, 5)
	b.flip()
	a.same("a memory beside another one")
	if a.h.Cost() == b.h.Cost() || a.h.Cost() != a.h.Cost() {
		t.Error("P9.1: Cost is not the memory's own meter")
	}
}
