package head_test

import (
	"math"
	"testing"

	"treadwheel/head"
)

// greatest is the head whose every part has all its bits set.
var greatest = head.Head{Class: 1<<12 - 1, Size: 1<<8 - 1, Cell: 1<<4 - 1}

func TestPackGivesTheWord(t *testing.T) {
	for _, c := range []struct {
		h    head.Head
		want uint32
	}{
		{head.Head{}, 0x00000001},
		{head.Head{Class: 1, Size: 2, Cell: 3}, 0x00102301},
		{head.Head{Class: 1}, 0x00100001},
		{head.Head{Size: 1}, 0x00001001},
		{head.Head{Cell: 1}, 0x00000101},
		{head.Head{Class: 4095}, 0xfff00001},
		{head.Head{Size: 255}, 0x000ff001},
		{head.Head{Cell: 15}, 0x00000f01},
		{head.Head{Class: 2048, Size: 128, Cell: 8}, 0x80080801},
		{head.Head{Class: 0xabc, Size: 0xde, Cell: 0x5}, 0xabcde501},
		{greatest, 0xffffff01},
	} {
		if w, ok := head.Pack(c.h); w != c.want || !ok {
			t.Errorf("P2.1: Pack(%+v): %#08x, %v, want %#08x", c.h, w, ok, c.want)
		}
	}
}

func TestPackRefuses(t *testing.T) {
	sound := head.Head{Class: 1, Size: 2, Cell: 3}
	for _, part := range []struct {
		name     string
		tooGreat int
		with     func(h head.Head, n int) head.Head
	}{
		{"Class", 4096, func(h head.Head, n int) head.Head { h.Class = n; return h }},
		{"Size", 256, func(h head.Head, n int) head.Head { h.Size = n; return h }},
		{"Cell", 16, func(h head.Head, n int) head.Head { h.Cell = n; return h }},
	} {
		for _, n := range []int{part.tooGreat, part.tooGreat + 1, -1, -2, -part.tooGreat, 1 << 20, 1 << 24, 1 << 31, 1 << 32, 1<<32 + 1, 1 << 40, -1 << 32, math.MaxInt, math.MinInt} {
			for _, h := range []head.Head{{}, sound, greatest} {
				bad := part.with(h, n)
				if w, ok := head.Pack(bad); w != 0 || ok {
					t.Errorf("P2.1: Pack(%+v), whose %s does not fit: %#08x, %v", bad, part.name, w, ok)
				}
			}
		}
		for _, n := range []int{0, 1, part.tooGreat - 1} {
			if _, ok := head.Pack(part.with(sound, n)); !ok {
				t.Errorf("P2.1: Pack refuses %s %d", part.name, n)
			}
		}
	}
}

func checkRound(t *testing.T, h head.Head) {
	t.Helper()
	w, ok := head.Pack(h)
	back, is := head.Open(w)
	if !ok || !is || back != h {
		t.Errorf("P2.1: Pack(%+v): %#08x, %v; Open of it: %+v, %v", h, w, ok, back, is)
	}
	if head.Class(w) != h.Class || head.Size(w) != h.Size {
		t.Errorf("P2.1: %#08x of %+v: Class %d, Size %d", w, h, head.Class(w), head.Size(w))
	}
}

func TestOpenGoesBack(t *testing.T) {
	for n := range 4096 {
		checkRound(t, head.Head{Class: n, Size: n % 256, Cell: n % 16})
		checkRound(t, head.Head{Class: 4095 - n, Size: n / 16, Cell: n / 256})
	}
	checkRound(t, greatest)
}

// TestOpenRefuses sets each of the eight lowest bits wrong, since a head has no freedom in any of them.
func TestOpenRefuses(t *testing.T) {
	for _, parts := range []uint32{0, 0x00102300, 0xffffff00, 0x80000000, 0x00000100} {
		for low := range uint32(256) {
			h, ok := head.Open(parts | low)
			if low == 1 {
				if want := (head.Head{Class: int(parts >> 20), Size: int(parts >> 12 & 255), Cell: int(parts >> 8 & 15)}); h != want || !ok {
					t.Errorf("P2.1: Open(%#08x): %+v, %v, want %+v", parts|low, h, ok, want)
				}
			} else if h != (head.Head{}) || ok {
				t.Errorf("P2.1: Open(%#08x): %+v, %v", parts|low, h, ok)
			}
		}
	}
}

// TestBitsOfNoHead holds Class and Size to the bits alone: a word need not be a head for them.
func TestBitsOfNoHead(t *testing.T) {
	for _, c := range []struct {
		w           uint32
		class, size int
	}{
		{0, 0, 0},
		{1, 0, 0},
		{0x00000fff, 0, 0},
		{0x00102300, 1, 2},
		{0x00102302, 1, 2},
		{0x001023ff, 1, 2},
		{0x000ff000, 0, 255},
		{0xfff00000, 4095, 0},
		{0x80080000, 2048, 128},
		{math.MaxUint32, 4095, 255},
	} {
		if class, size := head.Class(c.w), head.Size(c.w); class != c.class || size != c.size {
			t.Errorf("P2.1: of %#08x: Class %d, Size %d, want %d and %d", c.w, class, size, c.class, c.size)
		}
	}
}
