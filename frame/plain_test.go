package frame_test

import (
	"math"
	"slices"
	"testing"

	"treadwheel/api"
	"treadwheel/frame"
)

// wild are numbers that are no frame and no slot of any, whatever was taken.
var wild = []int{
	math.MinInt, math.MinInt + 1, math.MinInt + 8, math.MinInt32, -1 << 40, -1 << 32, 1 - 1<<32, -64, -25, -24, -9, -8, -3, -2, -1,
	api.MaxFrames, api.MaxFrames + 1, 2 * api.MaxFrames, 32, 64, 255, 256, 257, 65536, 1<<31 - 1, 1 << 31, 1 << 32, 1<<32 + 1, 1<<32 + 7, 1 << 62, math.MaxInt - 7, math.MaxInt,
}

// words are some that a frame may hold: numbers, identities, None.
var words = []uint32{0, 1, 2, 3, 4, 5, 6, 7, 8, 9, 255, 256, 65537, 1<<31 - 1, 1 << 31, 1<<31 + 8, 1<<32 - 2, 1<<32 - 1}

// plain keeps the frames that are not free in a map, by their numbers.
type plain struct {
	frames map[int]frame.Frame
	serial int
}

func newPlain() *plain { return &plain{frames: map[int]frame.Frame{}} }

func (p *plain) take(method int, self uint32, slots []uint32, sender, home int) int {
	if len(p.frames) == 24 || len(slots) > 8 {
		return -1
	}
	i := 0
	for p.has(i) {
		i++
	}
	if home == -1 {
		home = i
	}
	p.serial++
	p.frames[i] = frame.Frame{Method: method, Sender: sender, Home: home, Serial: p.serial, Self: self, Slots: slices.Concat(slots)}
	return i
}

func (p *plain) has(i int) bool {
	_, ok := p.frames[i]
	return ok
}

func (p *plain) give(i int) bool {
	ok := p.has(i)
	delete(p.frames, i)
	return ok
}

func (p *plain) jump(i, pc int) bool {
	f, ok := p.frames[i]
	if ok {
		f.PC = pc
		p.frames[i] = f
	}
	return ok
}

func (p *plain) push(i int, w uint32) bool {
	f, ok := p.frames[i]
	if !ok || len(f.Stack) >= 8 {
		return false
	}
	f.Stack = slices.Concat(f.Stack, []uint32{w})
	p.frames[i] = f
	return true
}

func (p *plain) pop(i int) (uint32, bool) {
	f, ok := p.frames[i]
	if !ok || len(f.Stack) == 0 {
		return 0, false
	}
	top := len(f.Stack) - 1
	w := f.Stack[top]
	f.Stack = slices.Concat(f.Stack[:top])
	p.frames[i] = f
	return w, true
}

func (p *plain) slot(i, k int, w uint32) bool {
	f, ok := p.frames[i]
	if !ok || k < 0 || k >= len(f.Slots) {
		return false
	}
	f.Slots = slices.Concat(f.Slots)
	f.Slots[k] = w
	p.frames[i] = f
	return true
}

func (p *plain) roots() []uint32 {
	var row []uint32
	for i := range 24 {
		if f, ok := p.frames[i]; ok {
			row = slices.Concat(row, []uint32{f.Self}, f.Slots, f.Stack)
		}
	}
	return row
}

func equal(a, b frame.Frame) bool {
	return a.Method == b.Method && a.PC == b.PC && a.Sender == b.Sender && a.Home == b.Home && a.Serial == b.Serial &&
		a.Self == b.Self && slices.Equal(a.Slots, b.Slots) && slices.Equal(a.Stack, b.Stack)
}

// both is a Pool and the plain one that it is held against, call by call.
type both struct {
	t *testing.T
	p *frame.Pool
	m *plain
}

func newBoth(t *testing.T) both { return both{t, frame.New(), newPlain()} }

func (b both) take(method int, self uint32, slots []uint32, sender, home int) int {
	b.t.Helper()
	got, want := b.p.Take(method, self, slots, sender, home), b.m.take(method, self, slots, sender, home)
	if got != want {
		b.t.Fatalf("P19.1: Take(%d, %#x, %v, %d, %d): %d, not %d", method, self, slots, sender, home, got, want)
	}
	return got
}

func (b both) give(i int) {
	b.t.Helper()
	if got, want := b.p.Give(i), b.m.give(i); got != want {
		b.t.Fatalf("P19.1: Give(%d): %v, not %v", i, got, want)
	}
}

func (b both) jump(i, pc int) {
	b.t.Helper()
	if got, want := b.p.Goto(i, pc), b.m.jump(i, pc); got != want {
		b.t.Fatalf("P19.1: Goto(%d, %d): %v, not %v", i, pc, got, want)
	}
}

func (b both) push(i int, w uint32) {
	b.t.Helper()
	if got, want := b.p.Push(i, w), b.m.push(i, w); got != want {
		b.t.Fatalf("P19.1: Push(%d, %#x): %v, not %v", i, w, got, want)
	}
}

func (b both) pop(i int) {
	b.t.Helper()
	got, ok := b.p.Pop(i)
	want, has := b.m.pop(i)
	if got != want || ok != has {
		b.t.Fatalf("P19.1: Pop(%d): %#x, %v, not %#x, %v", i, got, ok, want, has)
	}
}

func (b both) slot(i, k int, w uint32) {
	b.t.Helper()
	if got, want := b.p.Slot(i, k, w), b.m.slot(i, k, w); got != want {
		b.t.Fatalf("P19.1: Slot(%d, %d, %#x): %v, not %v", i, k, w, got, want)
	}
}

// same tells t where anything that is told of any frame is not the same.
func (b both) same(what string) {
	b.t.Helper()
	for i := -3; i < 24+3; i++ {
		got, ok := b.p.At(i)
		if want, has := b.m.frames[i]; ok != has || !equal(got, want) {
			b.t.Fatalf("P19.1: %s: At(%d): %v, %v, not %v, %v", what, i, got, ok, want, has)
		}
	}
	if got, want := b.p.Free(), 24-len(b.m.frames); got != want {
		b.t.Fatalf("P19.1: %s: Free: %d, not %d", what, got, want)
	}
	if got, want := b.p.Roots(), b.m.roots(); !slices.Equal(got, want) {
		b.t.Fatalf("P19.1: %s: Roots: %v, not %v", what, got, want)
	}
}

// rising answers so many words, from the first one on.
func rising(first uint32, n int) []uint32 {
	row := make([]uint32, n)
	for i := range row {
		row[i] = first + uint32(i)
	}
	return row
}

// scribble writes over a list and the room behind it.
func scribble(row []uint32) {
	row = row[:cap(row)]
	for i := range row {
		row[i] = 0xdead
	}
}
