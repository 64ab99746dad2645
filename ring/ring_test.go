package ring_test

import (
	"math"
	"slices"
	"testing"

	"treadwheel/ring"
)

// wild are numbers that are no place of any ring.
var wild = []int{-1, -2, 4096, 4097, 1 << 32, math.MaxInt, math.MinInt}

// holds tells t where r is not the ring of those places, in that order and round, of n places in all.
func holds(t *testing.T, what string, r *ring.Ring, n int, want []int) {
	t.Helper()
	if got := r.Len(); got != len(want) {
		t.Errorf("P4.1: %s: Len: %d, not %d", what, got, len(want))
	}
	for i := range n {
		next, prev := -1, -1
		var from []int
		if at := slices.Index(want, i); at >= 0 {
			next = want[(at+1)%len(want)]
			prev = want[(at+len(want)-1)%len(want)]
			from = append(append(from, want[at:]...), want[:at]...)
		}
		if got := r.Next(i); got != next {
			t.Errorf("P4.1: %s: Next(%d): %d, not %d", what, i, got, next)
		}
		if got := r.Prev(i); got != prev {
			t.Errorf("P4.1: %s: Prev(%d): %d, not %d", what, i, got, prev)
		}
		if got := r.From(i); !slices.Equal(got, from) {
			t.Errorf("P4.1: %s: From(%d): %v, not %v", what, i, got, from)
		}
	}
}

func rising(n int) []int {
	var row []int
	for i := range n {
		row = append(row, i)
	}
	return row
}

func TestNew(t *testing.T) {
	for _, n := range []int{1, 2, 3, 4, 7, 64} {
		r := ring.New(n)
		if r == nil {
			t.Fatalf("P4.1: New(%d): nil", n)
		}
		holds(t, "a new ring", r, n, rising(n))
	}
	for _, n := range []int{0, -1, -2, -4096, 4097, 4098, 1 << 31, 1 << 32, math.MaxInt, math.MinInt} {
		if ring.New(n) != nil {
			t.Errorf("P4.1: New(%d), not 1 to 4096: a ring", n)
		}
	}
	if got := ring.New(3).From(1); !slices.Equal(got, []int{1, 2, 0}) {
		t.Errorf("P4.1: the run: %v", got)
	}
}

func TestGreatest(t *testing.T) {
	r := ring.New(4096)
	if r == nil {
		t.Fatal("P4.1: New(4096): nil")
	}
	if !slices.Equal(r.From(0), rising(4096)) || r.Len() != 4096 || r.Next(4095) != 0 || r.Prev(0) != 4095 {
		t.Error("P4.1: New(4096): not 0 to 4095, and round")
	}
	if !r.Out(4095) || r.Next(4094) != 0 || r.Prev(0) != 4094 || r.Len() != 4095 {
		t.Error("P4.1: the last of 4096 is not taken out")
	}
	if !r.In(4095, 1) || !slices.Equal(r.From(4095)[:2], []int{4095, 1}) || r.Next(0) != 4095 {
		t.Error("P4.1: the last of 4096 is not put in ahead of 1")
	}
}

// No place of a ring, asked or taken: nothing is told, and nothing is changed.
func TestNone(t *testing.T) {
	r := ring.New(4)
	r.Out(2)
	for _, i := range append([]int{4, 5}, wild...) {
		if next, prev := r.Next(i), r.Prev(i); next != -1 || prev != -1 {
			t.Errorf("P4.1: Next and Prev of none, %d: %d, %d", i, next, prev)
		}
		if got := r.From(i); len(got) != 0 {
			t.Errorf("P4.1: From of none, %d: %v", i, got)
		}
		if r.Out(i) {
			t.Errorf("P4.1: Out of none, %d: true", i)
		}
		for _, ahead := range []int{0, 2, 4, -1, i} {
			if r.In(i, ahead) {
				t.Errorf("P4.1: In(%d, %d), of none: true", i, ahead)
			}
		}
		if r.In(2, i) {
			t.Errorf("P4.1: In(2, %d), ahead of none: true", i)
		}
	}
	holds(t, "after what is refused", r, 4, []int{0, 1, 3})
}

func TestOut(t *testing.T) {
	r := ring.New(5)
	for _, c := range []struct {
		i    int
		want []int
	}{
		{2, []int{0, 1, 3, 4}},
		{0, []int{1, 3, 4}},
		{4, []int{1, 3}},
		{1, []int{3}},
		{3, nil},
	} {
		if !r.Out(c.i) {
			t.Errorf("P4.1: Out(%d) of one that is in: false", c.i)
		}
		holds(t, "after Out", r, 5, c.want)
		if r.Out(c.i) {
			t.Errorf("P4.1: Out(%d) twice: true", c.i)
		}
		holds(t, "after Out twice", r, 5, c.want)
	}
}

func TestIn(t *testing.T) {
	r := ring.New(5)
	for i := range 5 {
		r.Out(i)
	}
	for i, c := range []struct {
		i, ahead int
		ok       bool
		want     []int
	}{
		{3, 3, false, nil},
		{3, 0, false, nil},
		{3, -2, false, nil},
		{3, math.MinInt, false, nil},
		{5, -1, false, nil},
		{3, -1, true, []int{3}},
		{3, -1, false, []int{3}},
		{3, 3, false, []int{3}},
		{1, -1, false, []int{3}},
		{1, 1, false, []int{3}},
		{1, 2, false, []int{3}},
		{1, 3, true, []int{3, 1}},
		{1, 3, false, []int{3, 1}},
		{3, 1, false, []int{3, 1}},
		{0, 3, true, []int{3, 1, 0}},
		{4, 1, true, []int{3, 4, 1, 0}},
		{2, 0, true, []int{3, 4, 1, 2, 0}},
		{2, -1, false, []int{3, 4, 1, 2, 0}},
		{2, 4, false, []int{3, 4, 1, 2, 0}},
	} {
		if got := r.In(c.i, c.ahead); got != c.ok {
			t.Errorf("P4.1: case %d: In(%d, %d): %t", i, c.i, c.ahead, got)
		}
		holds(t, "after In", r, 5, c.want)
	}
}

// A place may go out and in again wherever it lay, ahead of any other.
func TestEveryMove(t *testing.T) {
	for n := 2; n <= 5; n++ {
		for i := range n {
			for ahead := range n {
				r := ring.New(n)
				r.Out(i)
				row := slices.Delete(rising(n), i, i+1)
				ok := i != ahead
				if ok {
					row = slices.Insert(row, slices.Index(row, ahead), i)
				}
				if got := r.In(i, ahead); got != ok {
					t.Errorf("P4.1: of %d: Out(%d), In(%d, %d): %t", n, i, i, ahead, got)
				}
				holds(t, "after Out and In", r, n, row)
			}
		}
	}
}

// A long walk of moves, right and wrong, is held against a plain row of numbers.
func TestLongWalk(t *testing.T) {
	const n = 9
	r, row := ring.New(n), rising(n)
	step := uint32(1)
	pick := func() int {
		step = step*1664525 + 1013904223
		return int(step>>16)%(n+2) - 1
	}
	for range 4000 {
		i, ahead := pick(), pick()
		at, before := slices.Index(row, i), slices.Index(row, ahead)
		if pick() < 4 {
			if got := r.Out(i); got != (at >= 0) {
				t.Fatalf("P4.1: the walk: Out(%d) of %v: %t", i, row, got)
			}
			if at >= 0 {
				row = slices.Delete(row, at, at+1)
			}
		} else {
			ok := i >= 0 && i < n && at < 0 && (before >= 0 || ahead == -1 && len(row) == 0)
			if got := r.In(i, ahead); got != ok {
				t.Fatalf("P4.1: the walk: In(%d, %d) of %v: %t", i, ahead, row, got)
			}
			if ok {
				row = slices.Insert(row, max(before, 0), i)
			}
		}
		holds(t, "the walk", r, n, row)
	}
}

// Rings, and what they tell, share nothing.
func TestNewMemory(t *testing.T) {
	r, other := ring.New(4), ring.New(4)
	row := r.From(0)
	room := row[:cap(row)]
	for i := range room {
		room[i] = -7
	}
	holds(t, "after its answer is written over", r, 4, rising(4))
	if again := r.From(0); !slices.Equal(again, rising(4)) {
		t.Errorf("P4.1: From told twice: %v", again)
	}
	r.Out(1)
	holds(t, "another ring", other, 4, rising(4))
}
