package frame_test

import (
	"math"
	"math/rand"
	"slices"
	"testing"

	"treadwheel/api"
	"treadwheel/frame"
)

func TestRuns(t *testing.T) {
	p := frame.New()
	if p.Free() != api.MaxFrames || len(p.Roots()) != 0 {
		t.Errorf("P19.1: a new pool: Free %d, Roots %v", p.Free(), p.Roots())
	}
	if i := p.Take(3, 8, []uint32{5, 7}, -1, -1); i != 0 {
		t.Errorf("P19.1: Take of a new pool: %d, not 0", i)
	}
	if w, ok := p.Pop(0); w != 0 || ok {
		t.Errorf("P19.1: Pop of none: %d, %v", w, ok)
	}
	want := frame.Frame{Method: 3, Sender: -1, Serial: 1, Self: 8, Slots: []uint32{5, 7}}
	if f, ok := p.At(0); !ok || !equal(f, want) {
		t.Errorf("P19.1: At of the first one: %v, %v, not %v", f, ok, want)
	}
	if !p.Give(0) || p.Give(0) {
		t.Error("P19.1: Give twice: not true, then false")
	}
}

func TestNew(t *testing.T) {
	b := newBoth(t)
	b.same("a new pool")
	for _, i := range append(wild, 0, 1, 12, 23) {
		b.give(i)
		b.jump(i, 2)
		b.push(i, 9)
		b.pop(i)
		b.slot(i, 0, 9)
	}
	b.same("a new pool, of which nothing was there")
	if i := b.take(1, 8, nil, -1, -1); i != 0 {
		t.Errorf("P19.1: the first Take: %d", i)
	}
	b.same("one frame")
}

// Each number of slots that may be, and what a Take with more of them leaves: nothing, no number of the next one either.
func TestTakeSlots(t *testing.T) {
	b := newBoth(t)
	for n := range 8 + 1 {
		b.take(n, uint32(2*n), rising(uint32(100*n+1), n), n-1, -1)
		b.same("Take of each number of slots")
	}
	for _, n := range []int{9, 10, 16, 24, 256, 65536 + 3} {
		if i := b.take(7, 8, make([]uint32, n), 0, -1); i != -1 {
			t.Errorf("P19.1: Take with %d slots: %d", n, i)
		}
		b.same("Take with too many slots")
	}
	b.take(1, 2, []uint32{}, -1, -1)
	b.same("Take behind refused ones")
	if f, _ := b.p.At(9); f.Serial != 10 {
		t.Errorf("R3: Serial behind refused Takes: %d, not 10", f.Serial)
	}
}

// A method, a sender, a home and words of any size are kept as they are; a home of -1 alone means the frame itself.
func TestTakeNumbers(t *testing.T) {
	for _, n := range append(wild, 0, 1, 5, 23) {
		b := newBoth(t)
		b.take(1, 8, nil, -1, -1)
		b.take(n, 8, nil, -1, 0)
		b.take(1, 8, nil, n, 0)
		b.take(1, 8, nil, -1, n)
		b.take(n, 8, []uint32{1}, n, n)
		b.same("Take of numbers of any size")
	}
	b := newBoth(t)
	for _, w := range words {
		b.take(2, w, []uint32{w, 2, w}, 0, -1)
	}
	b.same("Take of words of each kind")
	f, _ := b.p.At(5)
	if f.Home != 5 {
		t.Errorf("P19.1: the home of a frame that is its own: %d, not 5", f.Home)
	}
}

// filled answers a pool of which no frame is free.
func filled(t *testing.T) both {
	t.Helper()
	b := newBoth(t)
	for i := range 24 {
		b.take(i, uint32(8+2*i), rising(uint32(1000+10*i), i%9), i-1, i/3)
	}
	return b
}

func TestTakeAll(t *testing.T) {
	b := filled(t)
	b.same("all taken")
	for range 3 {
		if i := b.take(1, 8, nil, -1, -1); i != -1 {
			t.Errorf("P19.1: Take, none is free: %d", i)
		}
	}
	b.take(1, 8, make([]uint32, 9), -1, -1)
	b.same("Take where none is free")
	for i := range 24 {
		b.give(i)
		if again := b.take(i, 8, nil, -1, -1); again != i {
			t.Errorf("P19.1: Take, %d alone is free: %d", i, again)
		}
		b.same("each one taken again")
	}
}

// The least one is taken, in whatever order they were given back; each Take's Serial is one more.
func TestTakeLeast(t *testing.T) {
	b := filled(t)
	for _, i := range []int{20, 3, 23, 0, 11, 4, 10} {
		b.give(i)
		b.same("one of seven given back")
	}
	for n, want := range []int{0, 3, 4, 10, 11, 20, 23, -1} {
		if i := b.take(n, 8, nil, -1, -1); i != want {
			t.Errorf("P19.1: Take %d: %d, not %d", n, i, want)
		}
		b.same("one of seven taken again")
	}
	for n := range 300 {
		i := n % 24
		b.give(i)
		b.take(n, 8, nil, -1, -1)
		if f, _ := b.p.At(i); f.Serial != 32+n {
			t.Fatalf("P19.1: the Serial of Take %d: %d", 32+n, f.Serial)
		}
	}
	b.same("many Takes")
}

func TestWrongFrames(t *testing.T) {
	b := filled(t)
	for i := range 24 {
		b.push(i, uint32(2*i+1))
	}
	for _, i := range wild {
		b.give(i)
		b.jump(i, 4)
		b.push(i, 9)
		b.pop(i)
		b.slot(i, 0, 9)
		if f, ok := b.p.At(i); ok || !equal(f, frame.Frame{}) {
			t.Errorf("P19.1: At(%d) of none: %v, %v", i, f, ok)
		}
	}
	b.same("frames that are none")
}

// A frame that is free tells and takes nothing; one that is taken again has nothing of what it was.
func TestGive(t *testing.T) {
	b := filled(t)
	for i := range 24 {
		b.jump(i, 2*i+2)
		for n := range i % 9 {
			b.push(i, uint32(64*i+n))
		}
	}
	b.same("frames in their work")
	for _, i := range []int{0, 7, 8, 16, 17, 22, 23} {
		b.give(i)
		b.same("Give")
		b.give(i)
		b.jump(i, 2)
		b.push(i, 9)
		b.pop(i)
		b.slot(i, 0, 9)
		b.same("a free one")
		b.take(50, 6, []uint32{2}, 1, -1)
		b.same("one that is taken again")
		b.pop(i)
		b.push(i, 11)
		b.give(i)
		b.take(51, 4, nil, -1, 2)
		b.push(i, 13)
		b.same("one that is taken a third time")
	}
}

func TestGoto(t *testing.T) {
	b := filled(t)
	for _, pc := range append(wild, 0, 2, 3, 126, 128, 0) {
		b.jump(5, pc)
		b.same("Goto")
	}
	b.give(6)
	b.jump(6, 2)
	b.jump(7, 4)
	b.jump(23, 6)
	b.same("Goto of some")
}

// A stack is filled and emptied to each depth, and beyond both ends.
func TestStack(t *testing.T) {
	b := filled(t)
	next := uint32(1)
	for depth := range 8 + 3 {
		for range depth {
			b.push(9, next)
			next += 2
			b.same("Push")
		}
		b.push(10, next)
		for range depth + 2 {
			b.pop(9)
			b.same("Pop")
		}
	}
	for _, w := range words {
		b.push(23, w)
		b.same("a word of each kind is pushed")
		b.pop(23)
	}
	for _, w := range words[:9] {
		b.push(0, w)
	}
	b.pop(0)
	b.push(0, 77)
	b.push(0, 79)
	b.same("a full stack, of which one was popped")
}

func TestSlot(t *testing.T) {
	b := newBoth(t)
	for n := range 8 + 1 {
		b.take(1, 8, rising(500, n), -1, -1)
	}
	for i := range 8 + 1 {
		for _, k := range append(wild, 0, 1, 2, 3, 4, 5, 6, 7, 8, 9) {
			b.slot(i, k, uint32(100*i+2*k+1))
			b.same("Slot")
		}
		b.push(i, 9)
		b.slot(i, i, 11)
		b.same("Slot behind the last one, where a stack is")
	}
	for _, w := range words {
		b.slot(8, 7, w)
		b.same("Slot of words of each kind")
	}
	b.give(4)
	b.slot(4, 0, 9)
	b.same("Slot of a free one")
}

// Roots of three frames, written by hand; what is free, and what was popped, is none.
func TestRoots(t *testing.T) {
	p := frame.New()
	p.Take(1, 8, []uint32{11, 13}, -1, -1)
	p.Take(2, 10, nil, 0, -1)
	p.Take(3, 0, []uint32{2}, 1, -1)
	p.Push(0, 15)
	p.Push(0, 17)
	p.Push(2, 19)
	p.Push(2, 21)
	p.Push(2, 23)
	p.Pop(2)
	p.Slot(0, 1, 8)
	for _, c := range []struct {
		give int
		want []uint32
	}{
		{24, []uint32{8, 11, 8, 15, 17, 10, 0, 2, 19, 21}},
		{1, []uint32{8, 11, 8, 15, 17, 0, 2, 19, 21}},
		{0, []uint32{0, 2, 19, 21}},
		{2, nil},
	} {
		p.Give(c.give)
		if got := p.Roots(); !slices.Equal(got, c.want) {
			t.Errorf("P19.1: Roots, Give(%d): %v, not %v", c.give, got, c.want)
		}
	}
	p.Take(4, 6, nil, -1, -1)
	if got := p.Roots(); !slices.Equal(got, []uint32{6}) {
		t.Errorf("P19.1: Roots of one that is taken again: %v", got)
	}
}

// The slots that are handed in are neither kept nor changed, nor is the room behind them read.
func TestSlotsHandedIn(t *testing.T) {
	b := newBoth(t)
	room := []uint32{1, 3, 5, 7, 9, 11, 13, 15, 17, 19}
	for n := range 8 + 1 {
		handed := slices.Clone(room)
		i := b.take(1, 8, handed[:n], -1, -1)
		b.slot(i, 0, 21)
		b.slot(i, n-1, 23)
		for range 9 {
			b.push(i, 25)
		}
		if !slices.Equal(handed, room) {
			t.Errorf("R2: Take with %d slots changed what was handed in: %v", n, handed)
		}
		scribble(handed)
		b.same("the slots that were handed in are written over")
	}
}

// What is answered shares nothing, and stays what it was.
func TestNewMemory(t *testing.T) {
	for depth := range 8 + 1 {
		b := filled(t)
		for range depth {
			b.push(8, 31)
		}
		first, _ := b.p.At(8)
		other, _ := b.p.At(8)
		roots := b.p.Roots()
		b.push(8, 33)
		b.slot(8, 0, 35)
		b.slot(8, 7, 37)
		b.pop(8)
		b.pop(8)
		b.jump(8, 6)
		if !equal(first, other) || first.PC != 0 || len(first.Stack) != depth || first.Slots[0] != 1080 || first.Slots[7] != 1087 {
			t.Errorf("R2: At, behind later calls: %v, %v", first, other)
		}
		scribble(first.Slots)
		scribble(first.Stack)
		if !slices.Equal(other.Slots, rising(1080, 8)) || !slices.Equal(other.Stack, slices.Repeat([]uint32{31}, depth)) {
			t.Errorf("R2: an answer of At, another one is written over: %v", other)
		}
		scribble(other.Stack)
		if !slices.Equal(other.Slots, rising(1080, 8)) {
			t.Errorf("R2: an answer's Slots, its Stack is written over: %v", other)
		}
		scribble(other.Slots)
		scribble(roots)
		scribble(b.p.Roots())
		b.same("answers that were written over")
		b.push(8, 39)
		b.same("Push behind answers that were written over")
	}
}

func TestApart(t *testing.T) {
	one, other := newBoth(t), newBoth(t)
	one.take(1, 8, []uint32{3}, -1, -1)
	one.push(0, 5)
	other.same("a pool beside another one")
	other.take(2, 10, []uint32{7}, -1, -1)
	one.slot(0, 0, 9)
	one.take(3, 12, nil, 0, 0)
	one.give(0)
	one.same("a pool that gave")
	other.same("a pool beside one that gave")
}

// walk does drawn calls, wrong ones among them, on the first few frames.
func walk(b both, r *rand.Rand, far, steps int) {
	b.t.Helper()
	for range steps {
		i := r.Intn(far+2) - 1
		w := words[r.Intn(len(words))]
		switch r.Intn(12) {
		case 0, 1:
			b.take(r.Intn(40)-2, w, rising(w, r.Intn(11)), r.Intn(26)-2, r.Intn(26)-2)
		case 2:
			b.give(i)
		case 3:
			b.jump(i, r.Intn(140)-4)
		case 4, 5, 6, 7:
			b.push(i, w)
		case 8, 9:
			b.pop(i)
		default:
			b.slot(i, r.Intn(11)-1, w)
		}
	}
}

// Drawn walks are held against the plain pool: in the longer ones all frames come to be taken.
func TestWalks(t *testing.T) {
	r := rand.New(rand.NewSource(191))
	for _, far := range []int{2, 8, 24} {
		for range 40 {
			b := newBoth(t)
			for range 60 {
				walk(b, r, far, 20)
				b.same("a walk")
			}
		}
	}
}

// Each row of five calls from a few, on two frames, is held against the plain pool behind its last call.
func TestEveryRow(t *testing.T) {
	calls := []func(both){
		func(b both) { b.take(5, 8, []uint32{11, 13}, 1, -1) },
		func(b both) { b.give(0) },
		func(b both) { b.give(1) },
		func(b both) { b.push(0, math.MaxUint32) },
		func(b both) { b.pop(0) },
		func(b both) { b.push(1, 15) },
		func(b both) { b.slot(1, 1, 17) },
		func(b both) { b.jump(0, 2) },
	}
	const length = 5
	rows := 1
	for range length {
		rows *= len(calls)
	}
	for row := range rows {
		b, rest := newBoth(t), row
		for range length {
			calls[rest%len(calls)](b)
			rest /= len(calls)
		}
		b.same("a row of calls")
	}
}
