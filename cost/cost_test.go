package cost_test

import (
	"math"
	"testing"

	"treadwheel/api"
	"treadwheel/cost"
)

const mostAdded = 1048576 // 2^20

// added are numbers for Add, and what each is held at.
var added = []struct {
	n    int
	held int64
}{
	{0, 0}, {1, 1}, {2, 2}, {63, 63}, {64, 64}, {1000, 1000}, {65535, 65535}, {65536, 65536},
	{mostAdded - 1, mostAdded - 1}, {mostAdded, mostAdded}, {mostAdded + 1, mostAdded},
	{1 << 31, mostAdded}, {1 << 32, mostAdded}, {1<<32 + 1, mostAdded}, {1 << 40, mostAdded},
	{1 << 60, mostAdded}, {1 << 62, mostAdded}, {math.MaxInt - 1, mostAdded}, {math.MaxInt, mostAdded},
	{-1, 0}, {-5, 0}, {-mostAdded, 0}, {-mostAdded - 1, 0}, {-1 << 32, 0}, {1 - 1<<32, 0}, {math.MinInt + 1, 0}, {math.MinInt, 0},
}

// reads tells t where m's numbers are not those wanted, or change by being asked.
func reads(t *testing.T, what string, m *cost.Meter, total, most int64) {
	t.Helper()
	for range 2 {
		if m.Total() != total || m.Most() != most {
			t.Errorf("P8.1: %s: Total %d, not %d; Most %d, not %d", what, m.Total(), total, m.Most(), most)
		}
	}
}

// marks tells t where m's Mark is not the one wanted.
func marks(t *testing.T, what string, m *cost.Meter, want int64) {
	t.Helper()
	if got := m.Mark(); got != want {
		t.Errorf("P8.1: %s: Mark: %d, not %d", what, got, want)
	}
}

func TestKinds(t *testing.T) {
	if cost.Step != 0 || cost.Alloc != 1 || cost.Lookup != 2 || cost.Long != 3 {
		t.Errorf("P8.1: kinds: %d, %d, %d, %d", cost.Step, cost.Alloc, cost.Lookup, cost.Long)
	}
}

func TestNew(t *testing.T) {
	m := cost.New()
	reads(t, "a new meter", m, 0, 0)
	marks(t, "the run", m, 0)
	marks(t, "the run, once more", m, 0)
	reads(t, "Marks of nothing", m, 0, 0)
}

func TestAdd(t *testing.T) {
	for _, a := range added {
		m := cost.New()
		m.Add(a.n)
		reads(t, "an Add ahead of any Mark", m, a.held, 0)
		marks(t, "an Add", m, a.held)
		reads(t, "a Mark", m, a.held, a.held)
		for _, b := range added {
			m := cost.New()
			m.Add(a.n)
			m.Add(b.n)
			reads(t, "two Adds", m, a.held+b.held, 0)
			marks(t, "two Adds", m, a.held+b.held)
			reads(t, "two Adds and a Mark", m, a.held+b.held, a.held+b.held)
		}
	}
	m := cost.New()
	m.Add(7)
	m.Add(-5)
	reads(t, "Add(-5), which is nothing", m, 7, 0)
	marks(t, "Add(-5), which is nothing", m, 7)
}

func TestMark(t *testing.T) {
	m := cost.New()
	total, most := int64(0), int64(0)
	for _, since := range []int64{3, 1, 4, 4, 0, 5, 2, 0, 0, 100, 99, 101, 1} {
		m.Add(int(since))
		total += since
		reads(t, "ahead of a Mark, which Most knows nothing of", m, total, most)
		marks(t, "what was added since the last Mark", m, since)
		if since > most {
			most = since
		}
		reads(t, "behind a Mark", m, total, most)
		marks(t, "a Mark right behind another one", m, 0)
		reads(t, "behind a Mark of nothing", m, total, most)
	}
}

// What is added between two Marks is told at once, however many Adds it took, and may be more than one Add takes.
func TestMarkOfManyAdds(t *testing.T) {
	m := cost.New()
	for range 5000 {
		m.Add(math.MaxInt)
	}
	reads(t, "many Adds", m, 5000*mostAdded, 0)
	marks(t, "many Adds", m, 5000*mostAdded)
	m.Add(1)
	marks(t, "one Add behind many", m, 1)
	reads(t, "one Add behind many", m, 5000*mostAdded+1, 5000*mostAdded)
}

// A long walk of calls is held against plain sums.
func TestLongWalk(t *testing.T) {
	step := uint32(1)
	pick := func(n int) int {
		step = step*1664525 + 1013904223
		return int(step>>8) % n
	}
	for often := 1; often <= 9; often++ {
		m := cost.New()
		var total, since, most int64
		for range 3000 {
			if pick(10) < often {
				a := added[pick(len(added))]
				m.Add(a.n)
				total += a.held
				since += a.held
			} else {
				marks(t, "the walk", m, since)
				if since > most {
					most = since
				}
				since = 0
			}
			reads(t, "the walk", m, total, most)
		}
	}
}

func TestApart(t *testing.T) {
	m, other := cost.New(), cost.New()
	m.Add(5)
	reads(t, "a meter beside another one", other, 0, 0)
	marks(t, "a meter beside another one", other, 0)
	other.Add(3)
	marks(t, "a meter beside one that was marked", m, 5)
	reads(t, "a meter beside another one", m, 5, 5)
	marks(t, "a meter beside one that was marked", other, 3)
	reads(t, "a meter beside another one", other, 3, 3)
}

// The bounds are written out, pace by pace, so that nothing of the package is held against itself.
func TestBound(t *testing.T) {
	alloc := []int{576, 704, 832, 960, 1088, 1216, 1344, 1472, 1600, 1728, 1856, 1984, 2112, 2240, 2368, 2496}
	for _, cells := range [][api.Sizes]int{{1}, {0, 0, 0, 0, 1}, {1, 2, 3, 4, 5}, {512, 508}, {0, 0, 0, 508, 512}} {
		for i, want := range alloc {
			c := api.Config{Cells: cells, Pace: i + 1}
			for kind, want := range []int{64, want, 112, 80} {
				if got := cost.Bound(c, kind); got != want {
					t.Errorf("P8.1: Bound(%v, %d): %d, not %d", c, kind, got, want)
				}
			}
		}
	}
}

func TestBoundOfNoKind(t *testing.T) {
	c := api.Config{Cells: [api.Sizes]int{4, 2, 0, 0, 1}, Pace: 2}
	for _, kind := range []int{-1, -2, -3, 4, 5, 9, 64, 256, 1 << 32, 1<<32 + 1, -1 << 32, 1 - 1<<32, math.MaxInt, math.MinInt} {
		if got := cost.Bound(c, kind); got != 0 {
			t.Errorf("P8.1: Bound of kind %d, which is none: %d", kind, got)
		}
	}
}

func TestBoundOfWrongConfig(t *testing.T) {
	right := [api.Sizes]int{4, 2, 0, 0, 1}
	for _, c := range []api.Config{
		{},
		{Pace: 2},
		{Cells: right},
		{Cells: right, Pace: -1},
		{Cells: right, Pace: -2},
		{Cells: right, Pace: 17},
		{Cells: right, Pace: 1<<32 + 2},
		{Cells: right, Pace: math.MaxInt},
		{Cells: right, Pace: math.MinInt},
		{Cells: [api.Sizes]int{4, -1}, Pace: 2},
		{Cells: [api.Sizes]int{513}, Pace: 2},
		{Cells: [api.Sizes]int{0, 0, 0, 0, 513}, Pace: 2},
		{Cells: [api.Sizes]int{512, 509}, Pace: 2},
		{Cells: [api.Sizes]int{math.MaxInt, math.MaxInt, 3}, Pace: 2},
		{Cells: [api.Sizes]int{math.MinInt}, Pace: math.MinInt},
	} {
		for _, kind := range []int{cost.Step, cost.Alloc, cost.Lookup, cost.Long, -1, 4, 9, math.MaxInt, math.MinInt} {
			if got := cost.Bound(c, kind); got != 0 {
				t.Errorf("P8.1: Bound(%v, %d), of a memory that is not right: %d", c, kind, got)
			}
		}
	}
}
