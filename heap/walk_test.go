package heap_test

import (
	"testing"

	"treadwheel/api"
)

// walker makes calls by a rule of its own, on a memory that is held against the plain one.
type walker struct {
	*both
	step  uint32
	roots []uint32
}

func (w *walker) pick(n int) int {
	w.step = w.step*1664525 + 1013904223
	return int(w.step>>8) % n
}

// someone answers an identity, often one that is there.
func (w *walker) someone() int {
	ids := w.m.ids()
	if len(ids) == 0 || w.pick(12) == 0 {
		return w.pick(40) - 2
	}
	return ids[w.pick(len(ids))]
}

// word answers a word, often one that leads to an object.
func (w *walker) word() uint32 {
	switch w.pick(8) {
	case 0:
		return odd[w.pick(len(odd))]
	case 1:
		return oop(w.someone()&1023) + 1
	}
	return oop(w.someone() & 1023)
}

// memories are those that are walked: small ones, where cells are often given back, and great ones.
var memories = [][api.Sizes]int{{6}, {0, 0, 0, 0, 5}, {4, 4}, {9, 5, 3, 2, 1}, {3, 0, 4, 0, 3}, {30, 20, 10, 5, 5}, {120, 0, 0, 40, 0}}

// All calls, right and wrong, in any order: the heap and the plain memory tell the same.
func TestWalk(t *testing.T) {
	for i, cells := range memories {
		w := &walker{both: newBoth(t, cells), step: uint32(i)}
		for k := range 6000 {
			w.anyCall()
			if k%3 == 0 {
				w.colors("the walk")
			}
			if k%20 == 0 {
				w.same("the walk")
			}
		}
	}
}

func (w *walker) anyCall() {
	w.t.Helper()
	switch kind := w.pick(40); {
	case kind < 12:
		w.alloc(w.pick(4100)-2, w.pick(66)-1)
	case kind < 16:
		w.alloc(w.pick(4096), w.pick(7))
	case kind < 26:
		id := w.someone()
		w.put(id, w.field(id), w.word())
	case kind < 28:
		w.get(w.someone(), w.pick(66)-2)
	case kind < 31:
		w.swap(w.someone(), w.someone())
	case kind < 34:
		w.hold(w.word(), w.word())
	case kind < 37:
		w.scan(w.pick(40) - 3)
	case kind < 39:
		w.flip()
	default:
		w.scan(1 << 40)
		w.flip()
	}
}

// field answers a number that often is one of the object's fields.
func (w *walker) field(id int) int {
	n := len(w.m.in[w.m.at[id]].fields)
	if n == 0 || w.pick(10) == 0 {
		return w.pick(66) - 2
	}
	return w.pick(n)
}

// A program that has words beside the memory, which are Held behind each of its steps, loses nothing of what they reach,
// however the collector's turns lie between the steps; and what they don't reach is given back, two Flips later.
func TestNothingIsLost(t *testing.T) {
	for i, cells := range memories {
		for often := range 4 {
			w := &walker{both: newBoth(t, cells), step: uint32(7 * i), roots: make([]uint32, 5)}
			for range 2500 {
				if w.h.Done() && w.pick(3) == 0 {
					w.turnAll()
				}
				for range 1 + often {
					w.programStep()
				}
				w.hold(w.roots...)
				w.scan(w.pick(30))
				w.wellColored()
			}
			w.givesBack()
		}
	}
}

// turnAll is a Flip that nothing may be given back by that is reached.
func (w *walker) turnAll() {
	w.t.Helper()
	before := w.m.reached(w.roots)
	w.flip()
	for id := range before {
		if w.h.Color(id) < 0 {
			w.t.Fatalf("P9.3: %d, which is reached, is given back", id)
		}
	}
	w.hold(w.roots...)
	w.same("a Flip")
}

// programStep changes a word beside the memory, or one in it; what a program has no way to, it leaves alone.
func (w *walker) programStep() {
	w.t.Helper()
	r := w.pick(len(w.roots))
	id := int(w.roots[r] / 2)
	switch kind := w.pick(10); {
	case kind < 3:
		if made := w.alloc(w.pick(4096), w.pick(9)*w.pick(8)); made > 0 {
			w.roots[r] = oop(made)
		}
	case kind < 5:
		if n := w.h.Fields(id); n > 0 {
			w.roots[r] = w.get(id, w.pick(n))
		}
	case kind < 8:
		if n := w.h.Fields(id); n > 0 {
			w.put(id, w.pick(n), w.roots[w.pick(len(w.roots))])
		}
	case kind < 9:
		w.roots[r] = nilWord
	default:
		w.swap(id, int(w.roots[w.pick(len(w.roots))]/2))
	}
}

// wellColored tells t where a Black cell leads to an Ecru one, and where one that is reached is not there.
func (w *walker) wellColored() {
	w.t.Helper()
	for _, id := range w.h.IDs() {
		if w.h.Color(id) != black {
			continue
		}
		for i := range w.h.Fields(id) {
			f, _ := w.h.Get(id, i)
			if f%2 == 0 && w.h.Color(int(f/2)) == ecru {
				w.t.Fatalf("W2: %d, which is Black, leads to %d, which is Ecru", id, f/2)
			}
		}
	}
}

// givesBack lets the collector go round, and tells t where it keeps what is not reached, or does not end.
func (w *walker) givesBack() {
	w.t.Helper()
	for range 3 {
		for n := 0; !w.h.Done(); n++ {
			if n > 2000 {
				w.t.Fatal("P9.2: Scans that don't end")
			}
			w.scan(1)
		}
		w.turnAll()
	}
	reached := w.m.reached(w.roots)
	for _, id := range w.h.IDs() {
		if !reached[id] {
			w.t.Fatalf("P9.2: %d, which is not reached, is not given back", id)
		}
	}
	if len(w.h.IDs()) != len(reached) {
		w.t.Fatalf("P9.3: IDs: %v; reached are %d", w.h.IDs(), len(reached))
	}
}

// A chain whose head alone is Held, moved along while it is scanned: each link is read and cut off behind the collector's back.
func TestChainIsNotLost(t *testing.T) {
	for words := range 12 {
		b := newBoth(t, [api.Sizes]int{10, 10})
		const links = 8
		for i := range links {
			b.alloc(i, 1+3*(i%2))
		}
		for i := range links - 1 {
			b.put(firstID+i, 0, oop(firstID+i+1))
		}
		at, keep := oop(firstID), b.alloc(9, 2)
		b.flip()
		b.hold(at, oop(keep))
		b.scan(8)
		for at != nilWord {
			next := b.get(int(at/2), 0)
			b.put(keep, 0, next) // what leads to the rest was scanned before
			b.put(int(at/2), 0, nilWord)
			at = next
			b.scan(words)
			b.hold(at, oop(keep))
			b.same("a link further")
			if at != nilWord && b.h.Color(int(at/2)) == ecru {
				t.Fatal("P9.2: the link that is Held is Ecru")
			}
		}
		b.scan(1000)
		if freed := b.flip(); freed != 0 {
			t.Errorf("P9.3: a Flip behind one of which all was reached: %d", freed)
		}
		b.same("the chain's end")
	}
}
