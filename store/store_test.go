package store_test

import (
	"math"
	"math/rand"
	"slices"
	"testing"

	"treadwheel/api"
	"treadwheel/heap"
	"treadwheel/store"
)

const (
	nilWord = uint32(2)
	firstID = 4
)

// wild are numbers that are no object's identity, no field and no class, whatever was made.
var wild = []int{
	math.MinInt, math.MinInt + 1, math.MinInt + 3, math.MinInt + 4, math.MinInt + 5, math.MinInt32 - 1, math.MinInt32, -1 << 40, -1 << 32, 4 - 1<<32, 1 - 1<<32, -65536, -64, -4, -3, -2, -1,
	1 << 20, 1<<31 - 1, 1 << 31, 1 << 32, 1<<32 + 1, 1<<32 + 4, 1<<32 + 5, 1 << 40, 1 << 62, math.MaxInt - 4, math.MaxInt - 1, math.MaxInt,
}

// words are some that a field may have: numbers, identities of any object or none.
var words = []uint32{1, 2, 3, 4, 5, 6, 7, 8, 9, 10, 255, 256, 2048, 65537, 1<<30 - 1, 1 << 30, 1<<31 - 1, 1 << 31, 1<<31 + 8, 1<<32 - 2, 1<<32 - 1}

type object struct {
	class  int
	fields []uint32
}

// plain keeps objects in a map, and by the identity alone.
type plain map[int]*object

func (p plain) alloc(class, fields int) int {
	if class < 0 || class > 4095 || fields < 0 || fields > 62 {
		return -1
	}
	id := firstID + len(p)
	p[id] = &object{class: class, fields: slices.Repeat([]uint32{nilWord}, fields)}
	return id
}

func (p plain) get(id, i int) (uint32, bool) {
	if p[id] == nil || i < 0 || i >= len(p[id].fields) {
		return 0, false
	}
	return p[id].fields[i], true
}

func (p plain) put(id, i int, w uint32) bool {
	if _, ok := p.get(id, i); !ok || w == 0 {
		return false
	}
	p[id].fields[i] = w
	return true
}

func (p plain) swap(a, b int) bool {
	if p[a] == nil || p[b] == nil {
		return false
	}
	p[a], p[b] = p[b], p[a]
	return true
}

// both is a Store and the plain one that it is held against.
type both struct {
	t *testing.T
	s store.Store
	p plain
}

func (b both) alloc(class, fields int) int {
	b.t.Helper()
	got, want := b.s.Alloc(class, fields), b.p.alloc(class, fields)
	if got != want {
		b.t.Fatalf("P18.1: Alloc(%d, %d): %d, not %d", class, fields, got, want)
	}
	return got
}

func (b both) get(id, i int) {
	b.t.Helper()
	got, ok := b.s.Get(id, i)
	want, has := b.p.get(id, i)
	if got != want || ok != has {
		b.t.Fatalf("P18.1: Get(%d, %d): %#x, %v, not %#x, %v", id, i, got, ok, want, has)
	}
}

func (b both) put(id, i int, w uint32) {
	b.t.Helper()
	if got, want := b.s.Put(id, i, w), b.p.put(id, i, w); got != want {
		b.t.Fatalf("P18.1: Put(%d, %d, %#x): %v, not %v", id, i, w, got, want)
	}
}

func (b both) swap(x, y int) {
	b.t.Helper()
	if got, want := b.s.Swap(x, y), b.p.swap(x, y); got != want {
		b.t.Fatalf("P18.1: Swap(%d, %d): %v, not %v", x, y, got, want)
	}
}

// same tells t where anything that is told of any object is not the same.
func (b both) same(what string) {
	b.t.Helper()
	for id := firstID - 6; id < firstID+len(b.p)+3; id++ {
		class, fields := -1, -1
		if o := b.p[id]; o != nil {
			class, fields = o.class, len(o.fields)
		}
		if c, f := b.s.Class(id), b.s.Fields(id); c != class || f != fields {
			b.t.Fatalf("P18.1: %s: Class, Fields(%d): %d, %d, not %d, %d", what, id, c, f, class, fields)
		}
		for i := -1; i <= max(fields, 0); i++ {
			b.get(id, i)
		}
	}
	if s, ok := b.s.(*store.Ideal); ok && s.Len() != len(b.p) {
		b.t.Fatalf("P18.1: %s: Len: %d, not %d", what, s.Len(), len(b.p))
	}
}

func newBoth(t *testing.T) both { return both{t, store.New(), plain{}} }

func TestRuns(t *testing.T) {
	s := store.New()
	if w, ok := s.Get(4, 0); w != 0 || ok {
		t.Errorf("P18.1: Get of none: %d, %v", w, ok)
	}
	if s.Len() != 0 {
		t.Errorf("P18.1: Len of a new one: %d", s.Len())
	}
	if id := s.Alloc(2, 3); id != 4 {
		t.Errorf("P18.1: Alloc(2, 3) of a new one: %d, not 4", id)
	}
	if id := s.Alloc(0, 0); id != 5 {
		t.Errorf("P18.1: the second Alloc: %d, not 5", id)
	}
	if c, f := s.Class(4), s.Fields(4); c != 2 || f != 3 {
		t.Errorf("P18.1: Class, Fields of it: %d, %d", c, f)
	}
	if w, ok := s.Get(4, 2); w != 2 || !ok {
		t.Errorf("P18.1: Get of a new object: %d, %v, not Nil", w, ok)
	}
	if s.Len() != 2 {
		t.Errorf("P18.1: Len of two: %d", s.Len())
	}
}

func TestAllocEach(t *testing.T) {
	b := newBoth(t)
	for fields := range 63 {
		b.alloc(fields*66, fields)
	}
	for _, class := range []int{0, 1, 2, 11, 12, 255, 256, 257, 2047, 2048, 4094, 4095} {
		b.alloc(class, 0)
		b.alloc(class, 62)
	}
	b.same("objects of each number of fields, of many classes")
}

func TestAllocWrong(t *testing.T) {
	b := newBoth(t)
	b.alloc(4095, 62)
	for _, class := range append([]int{4096, 4097, 8192, 65536}, wild...) {
		b.alloc(class, 0)
		b.alloc(class, 62)
		for _, fields := range wild {
			b.alloc(class, fields)
		}
	}
	for _, fields := range append([]int{63, 64, 65, 127, 128, 255, 256, 257, 65536}, wild...) {
		b.alloc(0, fields)
		b.alloc(4095, fields)
	}
	b.same("Allocs that were refused")
	if id := b.alloc(0, 1); id != 5 {
		t.Errorf("R3: an Alloc behind refused ones: %d", id)
	}
}

// More objects than any memory has cells and identities for: none is given back.
func TestForEver(t *testing.T) {
	b := newBoth(t)
	for i := range 5000 {
		id := b.alloc(i%4096, i%63)
		b.put(id, i%7, uint32(i*2+1))
	}
	b.same("5000 objects")
}

func TestFieldsApart(t *testing.T) {
	b := newBoth(t)
	next := uint32(1)
	for fields := range 63 {
		id := b.alloc(fields, fields)
		for i := range fields {
			b.put(id, i, next)
			next += 2
		}
	}
	b.same("each field another word")
	for _, id := range []int{firstID + 1, firstID + 30, firstID + 62} {
		b.put(id, 0, math.MaxUint32)
		b.same("one field changed")
	}
}

func TestGetPutWrong(t *testing.T) {
	b := newBoth(t)
	for _, fields := range []int{0, 1, 2, 61, 62} {
		id := b.alloc(1, fields)
		for _, i := range append([]int{fields, fields + 1, fields + 2, 62, 63, 64}, wild...) {
			b.get(id, i)
			b.put(id, i, 9)
		}
		for i := -1; i <= fields; i++ {
			b.put(id, i, 0)
		}
	}
	b.same("no fields, and None")
	id := b.alloc(7, 1)
	for _, w := range words {
		b.put(id, 0, w)
		b.get(id, 0)
		b.put(id, 0, 0)
		b.get(id, 0)
	}
	b.same("words of each kind")
}

func TestNone(t *testing.T) {
	b := newBoth(t)
	for range 3 {
		for _, id := range append([]int{0, 1, 2, 3, 4 + len(b.p), 5 + len(b.p), 1023, 1024}, wild...) {
			if c, f := b.s.Class(id), b.s.Fields(id); c != -1 || f != -1 {
				t.Errorf("P18.1: Class, Fields(%d) of none: %d, %d", id, c, f)
			}
			for _, i := range append([]int{0, 1, 62}, wild...) {
				b.get(id, i)
				b.put(id, i, 9)
			}
			b.swap(id, 4)
			b.swap(4, id)
			b.swap(id, id)
		}
		b.same("nothing of what is not there")
		b.alloc(3, 2)
	}
}

func TestSwap(t *testing.T) {
	b := newBoth(t)
	for i := range 5 {
		id := b.alloc(10+i, i)
		for f := range i {
			b.put(id, f, uint32(16*i+2*f+1))
		}
	}
	for x := 3; x <= 9; x++ {
		for y := 3; y <= 9; y++ {
			b.swap(x, y)
			b.same("a Swap")
		}
	}
	if id := b.alloc(1, 1); id != 9 {
		t.Errorf("P18.1: an Alloc behind Swaps: %d", id)
	}
	b.put(9, 0, 4*2)
	b.swap(9, 4)
	b.same("a word that leads to what is swapped stays as it is")
}

func TestTwoApart(t *testing.T) {
	a, b := newBoth(t), newBoth(t)
	a.alloc(1, 2)
	b.same("another one's object")
	b.alloc(2, 5)
	b.put(4, 1, 9)
	a.same("another one's field")
	b.swap(4, 4)
	a.alloc(3, 1)
	a.swap(4, 5)
	a.same("two")
	b.same("two")
}

// walk does drawn calls on b, wrong ones among them.
func walk(b both, r *rand.Rand, steps int) {
	b.t.Helper()
	for range steps {
		id, other := firstID-1+r.Intn(len(b.p)+2), firstID-1+r.Intn(len(b.p)+2)
		switch r.Intn(6) {
		case 0:
			b.alloc(r.Intn(4100)-2, r.Intn(66)-2)
		case 1:
			b.swap(id, other)
		case 2:
			b.get(id, r.Intn(66)-2)
		case 3:
			b.put(id, r.Intn(8)-1, uint32(other*2))
		case 4:
			b.put(id, r.Intn(66)-2, words[r.Intn(len(words))])
		case 5:
			b.put(id, r.Intn(3), uint32(r.Intn(3)))
		}
	}
}

func TestWalks(t *testing.T) {
	r := rand.New(rand.NewSource(181))
	for range 100 {
		b := newBoth(t)
		for range 10 {
			walk(b, r, 60)
			b.same("a walk")
		}
	}
}

// A memory answers the same, as long as it has cells: what the plain one is for a memory, the Ideal is.
func TestAsHeap(t *testing.T) {
	r := rand.New(rand.NewSource(182))
	for range 20 {
		h := heap.New(api.Config{Cells: [api.Sizes]int{204, 204, 204, 204, 204}, Pace: 1})
		i := newBoth(t)
		m := both{t, h, plain{}}
		seed := r.Int63()
		walk(i, rand.New(rand.NewSource(seed)), 600)
		walk(m, rand.New(rand.NewSource(seed)), 600)
		i.same("an Ideal")
		m.same("a memory")
		if len(i.p) != len(m.p) {
			t.Fatalf("P18.1: the walks are not the same: %d, %d objects", len(i.p), len(m.p))
		}
	}
}
