package cost

import (
	"math"
	"testing"
)

const greatest = 1152921504606846976 // 2^60

// No test has the time for the 2^40 Adds that it takes to get there: the meter is set beside the edge.
func TestHeldTotal(t *testing.T) {
	for _, c := range []struct {
		less, add int
		want      int64
	}{
		{mostAdded, math.MaxInt, greatest},
		{mostAdded + 1, math.MaxInt, greatest - 1},
		{2, 1, greatest - 1}, {2, 2, greatest}, {2, 3, greatest}, {1, math.MaxInt, greatest},
		{0, 0, greatest}, {0, 1, greatest}, {0, math.MaxInt, greatest}, {0, -1, greatest}, {0, math.MinInt, greatest},
		{1, -5, greatest - 1},
	} {
		m := New()
		m.total = greatest - int64(c.less)
		m.Add(c.add)
		if got := m.Total(); got != c.want {
			t.Errorf("P8.1: 2^60 less %d, and Add(%d): Total: %d, not %d", c.less, c.add, got, c.want)
		}
	}
}

// A Mark tells what was added, though the Total takes no more of it.
func TestMarkAtHeldTotal(t *testing.T) {
	m := New()
	m.total = greatest - 2
	for _, n := range []int64{5, 3, 0, 7} {
		m.Add(int(n))
		if got := m.Mark(); got != n || m.Total() != greatest {
			t.Errorf("P8.1: Add(%d) at the greatest Total: Mark: %d; Total: %d", n, got, m.Total())
		}
	}
	if m.Most() != 7 {
		t.Errorf("P8.1: Most at the greatest Total: %d", m.Most())
	}
}

// A first Mark tells what the Total tells, so it is held where that is.
func TestHeldMark(t *testing.T) {
	m := New()
	m.total, m.since = greatest-1, greatest-1
	for range 3 {
		m.Add(math.MaxInt)
	}
	if total, mark := m.Total(), m.Mark(); total != greatest || mark != greatest || m.Most() != greatest {
		t.Errorf("P8.1: a first Mark beyond 2^60: Total %d, Mark %d, Most %d", total, mark, m.Most())
	}
}
