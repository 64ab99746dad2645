package mill_test

import (
	"math"
	"slices"
	"testing"

	"treadwheel/mill"
)

// wild are numbers that are no cell of any mill, and no color.
var wild = []int{-1, -2, 513, 1024, 1 << 31, 1 << 32, 1<<32 + 1, math.MaxInt, math.MinInt}

// rows are the cells of each color in plain rows, to hold a mill against.
type rows [4][]int

func (r *rows) turn(from, to int) int {
	if len(r[from]) == 0 {
		return -1
	}
	i := r[from][0]
	r[from] = r[from][1:]
	r[to] = append(slices.Clip(r[to]), i)
	return i
}

func (r *rows) shade(i int) bool {
	at := slices.Index(r[mill.Ecru], i)
	if at < 0 {
		return false
	}
	r[mill.Ecru] = slices.Concat(r[mill.Ecru][:at], r[mill.Ecru][at+1:])
	r[mill.Grey] = append(slices.Clip(r[mill.Grey]), i)
	return true
}

func (r *rows) flip() []int {
	if len(r[mill.Grey]) > 0 {
		return nil
	}
	freed := r[mill.Ecru]
	r[mill.Free] = slices.Concat(r[mill.Free], freed)
	r[mill.Ecru], r[mill.Black] = r[mill.Black], nil
	return freed
}

// holds tells t where m is not the mill of those rows, and where the rows do not hold each of n cells once.
func holds(t *testing.T, what string, m *mill.Mill, n int, want rows) {
	t.Helper()
	times := make([]int, n)
	for color := range want {
		got := m.List(color)
		if !slices.Equal(got, want[color]) {
			t.Errorf("P5.1: %s: List(%d): %v, not %v", what, color, got, want[color])
		}
		if c := m.Count(color); c != len(want[color]) {
			t.Errorf("P5.1: %s: Count(%d): %d, not %d", what, color, c, len(want[color]))
		}
		for _, i := range want[color] {
			if c := m.Color(i); c != color {
				t.Errorf("P5.1: %s: Color(%d): %d, not %d", what, i, c, color)
			}
		}
		for _, i := range got {
			if i < 0 || i >= n {
				t.Errorf("P5.2: %s: List(%d) tells %d, no cell", what, color, i)
				continue
			}
			times[i]++
		}
	}
	for i, k := range times {
		if k != 1 {
			t.Errorf("P5.2: %s: cell %d is in %d stretches", what, i, k)
		}
	}
}

func rising(from, to int) []int {
	var row []int
	for i := from; i < to; i++ {
		row = append(row, i)
	}
	return row
}

// after answers a mill of n cells, so many of them Alloced, then Flipped, so many more Alloced.
func after(n, ecru, black int) *mill.Mill {
	m := mill.New(n)
	for range ecru {
		m.Alloc()
	}
	m.Flip()
	for range black {
		m.Alloc()
	}
	return m
}

func TestColors(t *testing.T) {
	if mill.Free != 0 || mill.Black != 1 || mill.Grey != 2 || mill.Ecru != 3 {
		t.Error("the colors are not 0 to 3 as the chapter has them")
	}
}

func TestNew(t *testing.T) {
	for _, n := range []int{1, 2, 3, 7, 64, 511, 512} {
		m := mill.New(n)
		if m == nil {
			t.Fatalf("P5.1: New(%d): nil", n)
		}
		holds(t, "a new mill", m, n, rows{rising(0, n)})
		if got := m.Color(n); got != -1 {
			t.Errorf("P5.1: New(%d): Color(%d): %d", n, n, got)
		}
	}
	for _, n := range append([]int{0, 514, 4096}, wild...) {
		if mill.New(n) != nil {
			t.Errorf("P5.1: New(%d), not 1 to 512: a mill", n)
		}
	}
}

func TestAlloc(t *testing.T) {
	m := mill.New(2)
	if a, b, c := m.Alloc(), m.Alloc(), m.Alloc(); a != 0 || b != 1 || c != -1 {
		t.Errorf("P5.1: the run: %d, %d, %d", a, b, c)
	}
	m = mill.New(3)
	for k, want := range []rows{{{1, 2}, {0}}, {{2}, {0, 1}}, {nil, {0, 1, 2}}} {
		if got := m.Alloc(); got != k {
			t.Errorf("P5.1: Alloc: %d, not %d", got, k)
		}
		holds(t, "after Alloc", m, 3, want)
	}
	if got := m.Alloc(); got != -1 {
		t.Errorf("P5.1: Alloc, none Free: %d", got)
	}
	holds(t, "after Alloc of none", m, 3, rows{nil, {0, 1, 2}})
}

func TestShade(t *testing.T) {
	m := after(7, 4, 1)
	holds(t, "four Ecru, one Black", m, 7, rows{{5, 6}, {4}, nil, {0, 1, 2, 3}})
	for _, c := range []struct {
		i    int
		ok   bool
		want rows
	}{
		{5, false, rows{{5, 6}, {4}, nil, {0, 1, 2, 3}}},
		{4, false, rows{{5, 6}, {4}, nil, {0, 1, 2, 3}}},
		{2, true, rows{{5, 6}, {4}, {2}, {0, 1, 3}}},
		{2, false, rows{{5, 6}, {4}, {2}, {0, 1, 3}}},
		{0, true, rows{{5, 6}, {4}, {2, 0}, {1, 3}}},
		{3, true, rows{{5, 6}, {4}, {2, 0, 3}, {1}}},
		{1, true, rows{{5, 6}, {4}, {2, 0, 3, 1}, nil}},
		{1, false, rows{{5, 6}, {4}, {2, 0, 3, 1}, nil}},
		{7, false, rows{{5, 6}, {4}, {2, 0, 3, 1}, nil}},
	} {
		if got := m.Shade(c.i); got != c.ok {
			t.Errorf("P5.1: Shade(%d): %t", c.i, got)
		}
		holds(t, "after Shade", m, 7, c.want)
	}
	if mill.New(1).Shade(0) {
		t.Error("P5.1: Shade of a Free one: true")
	}
}

func TestScan(t *testing.T) {
	m := after(6, 4, 1)
	if got := m.Scan(); got != -1 {
		t.Errorf("P5.1: Scan, none Grey: %d", got)
	}
	holds(t, "after Scan of none", m, 6, rows{{5}, {4}, nil, {0, 1, 2, 3}})
	m.Shade(3)
	m.Shade(1)
	for _, c := range []struct {
		got  int
		want rows
	}{
		{3, rows{{5}, {4, 3}, {1}, {0, 2}}},
		{1, rows{{5}, {4, 3, 1}, nil, {0, 2}}},
		{-1, rows{{5}, {4, 3, 1}, nil, {0, 2}}},
	} {
		if got := m.Scan(); got != c.got {
			t.Errorf("P5.1: Scan: %d, not %d", got, c.got)
		}
		holds(t, "after Scan", m, 6, c.want)
	}
}

// Scan and Alloc both lay their cell behind the Black ones, as they come.
func TestScanAndAlloc(t *testing.T) {
	m := after(5, 2, 0)
	m.Shade(1)
	if a, b, c := m.Alloc(), m.Scan(), m.Alloc(); a != 2 || b != 1 || c != 3 {
		t.Errorf("P5.1: Alloc, Scan, Alloc: %d, %d, %d", a, b, c)
	}
	holds(t, "after Alloc, Scan, Alloc", m, 5, rows{{4}, {2, 1, 3}, nil, {0}})
}

func TestFlip(t *testing.T) {
	m := mill.New(5)
	for i, c := range []struct {
		do   func()
		told []int
		want rows
	}{
		{func() {}, nil, rows{{0, 1, 2, 3, 4}}},
		{func() { m.Alloc(); m.Alloc() }, nil, rows{{2, 3, 4}, nil, nil, {0, 1}}},
		{func() { m.Alloc(); m.Shade(1) }, nil, rows{{3, 4}, {2}, {1}, {0}}},
		{func() {}, nil, rows{{3, 4}, {2}, {1}, {0}}},
		{func() { m.Scan() }, []int{0}, rows{{3, 4, 0}, nil, nil, {2, 1}}},
		{func() {}, []int{2, 1}, rows{{3, 4, 0, 2, 1}}},
		{func() { m.Alloc(); m.Alloc(); m.Alloc(); m.Alloc(); m.Alloc() }, nil, rows{nil, nil, nil, {3, 4, 0, 2, 1}}},
		{func() { m.Shade(0); m.Shade(3); m.Scan(); m.Scan() }, []int{4, 2, 1}, rows{{4, 2, 1}, nil, nil, {0, 3}}},
		{func() { m.Alloc() }, []int{0, 3}, rows{{2, 1, 0, 3}, nil, nil, {4}}},
		{func() { m.Shade(4); m.Scan() }, nil, rows{{2, 1, 0, 3}, nil, nil, {4}}},
	} {
		c.do()
		if got := m.Flip(); !slices.Equal(got, c.told) {
			t.Errorf("P5.1: case %d: Flip: %v, not %v", i, got, c.told)
		}
		holds(t, "after Flip", m, 5, c.want)
	}
}

// A mill of one cell: whatever leaves its stretch leaves the whole ring empty.
func TestOne(t *testing.T) {
	m := mill.New(1)
	for i, c := range []struct {
		do   func() bool
		want rows
	}{
		{func() bool { return m.Alloc() == 0 }, rows{nil, {0}}},
		{func() bool { return m.Alloc() == -1 && m.Scan() == -1 && !m.Shade(0) }, rows{nil, {0}}},
		{func() bool { return len(m.Flip()) == 0 }, rows{nil, nil, nil, {0}}},
		{func() bool { return m.Alloc() == -1 && m.Shade(0) }, rows{nil, nil, {0}}},
		{func() bool { return len(m.Flip()) == 0 && m.Alloc() == -1 }, rows{nil, nil, {0}}},
		{func() bool { return m.Scan() == 0 }, rows{nil, {0}}},
		{func() bool { return len(m.Flip()) == 0 }, rows{nil, nil, nil, {0}}},
		{func() bool { return slices.Equal(m.Flip(), []int{0}) }, rows{{0}}},
	} {
		if !c.do() {
			t.Errorf("P5.1: of one cell: case %d", i)
		}
		holds(t, "of one cell", m, 1, c.want)
	}
}

// No cell and no color: nothing is told, and nothing is changed.
func TestNone(t *testing.T) {
	m := after(4, 2, 1)
	m.Shade(0)
	want := rows{{3}, {2}, {0}, {1}}
	for _, i := range append([]int{4, 5, 512}, wild...) {
		if got := m.Color(i); got != -1 {
			t.Errorf("P5.1: Color of none, %d: %d", i, got)
		}
		if m.Shade(i) {
			t.Errorf("P5.1: Shade of none, %d: true", i)
		}
		if got := m.Count(i); got != 0 {
			t.Errorf("P5.1: Count of no color, %d: %d", i, got)
		}
		if got := m.List(i); len(got) != 0 {
			t.Errorf("P5.1: List of no color, %d: %v", i, got)
		}
	}
	holds(t, "after what is none", m, 4, want)
}

func TestGreatest(t *testing.T) {
	const n = 512
	m := mill.New(n)
	for i := range n {
		if got := m.Alloc(); got != i {
			t.Fatalf("P5.1: of 512: Alloc: %d, not %d", got, i)
		}
	}
	if got := m.Alloc(); got != -1 {
		t.Errorf("P5.1: of 512: Alloc, none Free: %d", got)
	}
	m.Flip()
	holds(t, "of 512, all Ecru", m, n, rows{nil, nil, nil, rising(0, n)})
	var odd, even []int
	for i := n - 1; i >= 0; i -= 2 {
		if !m.Shade(i) {
			t.Fatalf("P5.1: of 512: Shade(%d): false", i)
		}
		odd, even = append(odd, i), append([]int{i - 1}, even...)
	}
	holds(t, "of 512, half Grey", m, n, rows{nil, nil, odd, even})
	for range odd {
		m.Scan()
	}
	if got := m.Flip(); !slices.Equal(got, even) {
		t.Errorf("P5.1: of 512: Flip: %v", got)
	}
	holds(t, "of 512, after two Flips", m, n, rows{even, nil, nil, odd})
}

// move does one of n+3 moves to m and to the rows, and tells t where they answer another thing.
func move(t *testing.T, m *mill.Mill, r *rows, n, which int) {
	t.Helper()
	switch which - n {
	case 0:
		if got, want := m.Alloc(), r.turn(mill.Free, mill.Black); got != want {
			t.Errorf("P5.1: Alloc: %d, not %d", got, want)
		}
	case 1:
		if got, want := m.Scan(), r.turn(mill.Grey, mill.Black); got != want {
			t.Errorf("P5.1: Scan: %d, not %d", got, want)
		}
	case 2:
		if got, want := m.Flip(), r.flip(); !slices.Equal(got, want) {
			t.Errorf("P5.1: Flip: %v, not %v", got, want)
		}
	default:
		if got, want := m.Shade(which), r.shade(which); got != want {
			t.Errorf("P5.1: Shade(%d): %t, not %t", which, got, want)
		}
	}
}

// Every row of a few moves of small mills is held against plain rows at each step.
func TestEveryMove(t *testing.T) {
	for n := 1; n <= 4; n++ {
		length, walks := min(7, 9-n), 1
		for range length {
			walks *= n + 3
		}
		for walk := 0; walk < walks && !t.Failed(); walk++ {
			m, r, rest := mill.New(n), rows{rising(0, n)}, walk
			for range length {
				move(t, m, &r, n, rest%(n+3))
				holds(t, "a short walk", m, n, r)
				rest /= n + 3
			}
		}
	}
}

// A long walk of moves is held against plain rows at each step.
func TestLongWalk(t *testing.T) {
	step := uint32(1)
	pick := func(n int) int {
		step = step*1664525 + 1013904223
		return int(step>>16) % n
	}
	for _, n := range []int{5, 9, 40} {
		m, r := mill.New(n), rows{rising(0, n)}
		for k := 0; k < 6000 && !t.Failed(); k++ {
			which := pick(n)
			if pick(2) == 0 {
				which = n + pick(3)
			}
			move(t, m, &r, n, which)
			holds(t, "the long walk", m, n, r)
		}
	}
}

// Mills, and what they tell, share nothing.
func TestNewMemory(t *testing.T) {
	m, other := after(6, 3, 2), mill.New(6)
	want := rows{{5}, {3, 4}, nil, {0, 1, 2}}
	for color := range 4 {
		scribble(m.List(color))
	}
	holds(t, "after List is written over", m, 6, want)
	told := m.Flip()
	if !slices.Equal(told, []int{0, 1, 2}) {
		t.Errorf("P5.1: Flip: %v", told)
	}
	scribble(told)
	holds(t, "after Flip is written over", m, 6, rows{{5, 0, 1, 2}, nil, nil, {3, 4}})
	holds(t, "another mill", other, 6, rows{rising(0, 6)})
	kept := m.List(mill.Free)
	m.Alloc()
	if !slices.Equal(kept, []int{5, 0, 1, 2}) {
		t.Errorf("R2: List, after Alloc: %v", kept)
	}
}

// scribble writes over a list and the room behind it.
func scribble(row []int) {
	row = row[:cap(row)]
	for i := range row {
		row[i] = -7
	}
}
