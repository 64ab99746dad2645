package table_test

import (
	"math"
	"slices"
	"testing"

	"treadwheel/api"
	"treadwheel/table"
)

const (
	first = 4
	count = api.MaxIDs - first // identities in all
)

// wrong are numbers that are no object's identity, whatever was taken.
var wrong = []int{
	math.MinInt, math.MinInt + 4, -1 << 32, 4 - 1<<32, -1024, -5, -4, -1, 0, 1, 2, 3,
	1024, 1025, 1028, 2048, 65540, 1 << 31, 1 << 32, 1<<32 + 4, 1 << 62, math.MaxInt,
}

// odd are places that are easily taken for one another.
var odd = []table.Place{
	{0, 0}, {0, 1}, {1, 0}, {1, 1}, {2, 3}, {3, 2}, {0, 512}, {1, 511}, {512, 0}, {4, 511}, {511, 4}, {5, 0}, {0, 1024},
	{0, -1}, {-1, 0}, {-1, -1}, {1, -1}, {-1, 1}, {1, 1 << 32}, {1 << 32, 1}, {1<<32 + 1, 0}, {0, 1<<32 + 1},
	{math.MaxInt, math.MaxInt}, {math.MaxInt, math.MinInt}, {math.MinInt, math.MaxInt}, {math.MinInt, math.MinInt},
}

// plain is a table as a row of pairs, which the table is held against.
type plain map[int]table.Place

func (m plain) of(p table.Place) (int, bool) {
	for id, q := range m {
		if p == q {
			return id, true
		}
	}
	return 0, false
}

func (m plain) take(p table.Place) int {
	if _, ok := m.of(p); ok {
		return -1
	}
	for id := first; id < api.MaxIDs; id++ {
		if _, ok := m[id]; !ok {
			m[id] = p
			return id
		}
	}
	return -1
}

func (m plain) give(id int) bool {
	_, ok := m[id]
	delete(m, id)
	return ok
}

func (m plain) swap(a, b int) bool {
	p, ok := m[a]
	q, both := m[b]
	if !ok || !both {
		return false
	}
	m[a], m[b] = q, p
	return true
}

// same tells t where the table is not m: by IDs, by At of each number, by Of of each place there and of those beside.
func same(t *testing.T, what string, got *table.Table, m plain, beside []table.Place) {
	t.Helper()
	var ids []int
	for id := -2; id < api.MaxIDs+2; id++ {
		want, has := m[id]
		if has {
			ids = append(ids, id)
			if of, ok := got.Of(want); of != id || !ok {
				t.Fatalf("P7.1: %s: Of(%v): %d, %v, not %d", what, want, of, ok, id)
			}
		}
		if p, ok := got.At(id); p != want || ok != has {
			t.Fatalf("P7.1: %s: At(%d): %v, %v, not %v, %v", what, id, p, ok, want, has)
		}
	}
	if !slices.Equal(got.IDs(), ids) {
		t.Fatalf("P7.1: %s: IDs: %v, not %v", what, got.IDs(), ids)
	}
	for _, p := range beside {
		want, has := m.of(p)
		if id, ok := got.Of(p); id != want || ok != has {
			t.Fatalf("P7.1: %s: Of(%v): %d, %v, not %d, %v", what, p, id, ok, want, has)
		}
	}
}

// filled answers a table in which each identity is taken, and the plain one.
func filled(t *testing.T) (*table.Table, plain) {
	t.Helper()
	all, m := table.New(), plain{}
	for i := range count {
		p := table.Place{Size: i % api.Sizes, Cell: i / api.Sizes}
		if id := all.Take(p); id != first+i {
			t.Fatalf("P7.1: Take, time %d: %d", i, id)
		}
		m[first+i] = p
	}
	return all, m
}

func TestRun(t *testing.T) {
	ids := table.New()
	same(t, "New", ids, plain{}, odd)
	for i, want := range []int{4, 5} {
		if id := ids.Take(table.Place{Size: 2, Cell: i}); id != want {
			t.Errorf("P7.1: the run, Take %d: %d", i, id)
		}
	}
	if id := ids.Take(table.Place{Size: 2, Cell: 1}); id != -1 {
		t.Errorf("P7.1: Take of a place that has one: %d", id)
	}
	if ids.Give(6) {
		t.Error("P7.1: Give of a free one")
	}
	same(t, "the run", ids, plain{4: {2, 0}, 5: {2, 1}}, odd)
}

func TestTakeAll(t *testing.T) {
	all, m := filled(t)
	same(t, "all taken", all, m, odd)
	for _, p := range []table.Place{{4, 511}, {0, 0}, {-1, -1}} {
		if id := all.Take(p); id != -1 {
			t.Errorf("P7.1: Take(%v), none is free: %d", p, id)
		}
	}
	same(t, "Take where none is free", all, m, odd)
	for _, id := range []int{first, 500, api.MaxIDs - 1} {
		if !all.Give(id) {
			t.Errorf("P7.1: Give(%d)", id)
		}
		if again := all.Take(table.Place{Size: 4, Cell: 511}); again != id {
			t.Errorf("P7.1: Take, %d alone is free: %d", id, again)
		}
		all.Give(id)
		if again := all.Take(m[id]); again != id {
			t.Errorf("P7.1: Take of the place that was %d's: %d", id, again)
		}
	}
	same(t, "each taken again", all, m, odd)
}

// The least one is taken, in whatever order they were given back.
func TestTakeLeast(t *testing.T) {
	all, m := filled(t)
	for _, id := range []int{900, 4, 1023, 77, 5, 76} {
		all.Give(id)
		delete(m, id)
	}
	same(t, "six given back", all, m, odd)
	for i, want := range []int{4, 5, 76, 77, 900, 1023, -1} {
		p := table.Place{Size: 9, Cell: i}
		if id := all.Take(p); id != want {
			t.Errorf("P7.1: Take %d: %d, not %d", i, id, want)
		}
		if want > 0 {
			m[want] = p
		}
	}
	same(t, "six taken again", all, m, odd)
}

// A place is two numbers of any size; whoever packs them takes some for others.
func TestPlaces(t *testing.T) {
	ids, m := table.New(), plain{}
	for i, p := range odd {
		if id, ok := ids.Of(p); id != 0 || ok {
			t.Errorf("P7.1: Of(%v), which has none: %d, %v", p, id, ok)
		}
		if id := ids.Take(p); id != first+i {
			t.Errorf("P7.1: Take(%v): %d, not %d", p, id, first+i)
		}
		m[first+i] = p
		same(t, "Take of odd places", ids, m, odd)
		for _, q := range odd[:i+1] {
			if id := ids.Take(q); id != -1 {
				t.Errorf("P7.1: Take(%v), which has one: %d", q, id)
			}
		}
		same(t, "Take of odd places that have one", ids, m, odd)
	}
}

func TestGive(t *testing.T) {
	ids, m := table.New(), plain{}
	for i := range 6 {
		m[ids.Take(table.Place{Size: 1, Cell: i})] = table.Place{Size: 1, Cell: i}
	}
	for _, id := range append([]int{10, 11, 1023}, wrong...) {
		if ids.Give(id) {
			t.Errorf("P7.1: Give(%d), which is free or none", id)
		}
	}
	same(t, "Give of free ones", ids, m, odd)
	for _, id := range []int{6, 4, 9} {
		if !ids.Give(id) {
			t.Errorf("P7.1: Give(%d)", id)
		}
		p := m[id]
		delete(m, id)
		same(t, "Give", ids, m, append(odd, p))
		if ids.Give(id) {
			t.Errorf("P7.1: Give(%d) again", id)
		}
		same(t, "Give again", ids, m, append(odd, p))
	}
}

func TestAtWrong(t *testing.T) {
	all, m := filled(t)
	for _, ids := range []*table.Table{table.New(), all} {
		for _, id := range wrong {
			if p, ok := ids.At(id); ok || p != (table.Place{}) {
				t.Errorf("P7.1: At(%d): %v, %v", id, p, ok)
			}
			if ids.Give(id) {
				t.Errorf("P7.1: Give(%d)", id)
			}
			for _, other := range []int{first, 500, 1023, id} {
				if ids.Swap(id, other) || ids.Swap(other, id) {
					t.Errorf("P7.1: Swap(%d, %d)", id, other)
				}
			}
		}
	}
	same(t, "wrong numbers", all, m, odd)
}

func TestSwap(t *testing.T) {
	ids := table.New()
	a, b, c := table.Place{Size: 0, Cell: 7}, table.Place{Size: 3, Cell: 0}, table.Place{}
	ids.Take(a)
	ids.Take(b)
	ids.Take(c)
	beside := append([]table.Place{a, b, c}, odd...)
	for _, s := range []struct {
		x, y int
		ok   bool
		m    plain
	}{
		{4, 5, true, plain{4: b, 5: a, 6: c}},
		{4, 4, true, plain{4: b, 5: a, 6: c}},
		{6, 5, true, plain{4: b, 5: c, 6: a}},
		{7, 4, false, plain{4: b, 5: c, 6: a}},
		{4, 7, false, plain{4: b, 5: c, 6: a}},
		{7, 7, false, plain{4: b, 5: c, 6: a}},
		{7, 8, false, plain{4: b, 5: c, 6: a}},
		{5, 6, true, plain{4: b, 5: a, 6: c}},
		{5, 4, true, plain{4: a, 5: b, 6: c}},
	} {
		if ok := ids.Swap(s.x, s.y); ok != s.ok {
			t.Errorf("P7.1: Swap(%d, %d): %v", s.x, s.y, ok)
		}
		same(t, "Swap", ids, s.m, beside)
	}
	ids.Swap(4, 6)
	if !ids.Give(4) {
		t.Error("P7.1: Give behind Swap")
	}
	same(t, "Give behind Swap", ids, plain{5: b, 6: a}, beside)
	if ids.Swap(4, 5) || ids.Swap(5, 4) {
		t.Error("P7.1: Swap with one that was given back")
	}
	if id := ids.Take(a); id != -1 {
		t.Errorf("P7.1: Take of the place that 6 has by Swap: %d", id)
	}
	if id := ids.Take(c); id != 4 {
		t.Errorf("P7.1: Take of the place that 4 had by Swap: %d", id)
	}
	same(t, "Take behind Swap", ids, plain{4: c, 5: b, 6: a}, beside)
}

func TestIDsNew(t *testing.T) {
	if ids := table.New().IDs(); len(ids) > 0 {
		t.Errorf("P7.1: IDs of none: %v", ids)
	}
	ids := table.New()
	ids.Take(table.Place{})
	ids.Take(table.Place{Size: 1})
	row, other := ids.IDs(), ids.IDs()
	clear(row[:cap(row)])
	if !slices.Equal(other, []int{4, 5}) {
		t.Errorf("R2: two answers share memory: %v", other)
	}
	same(t, "an answer that was written on", ids, plain{4: {}, 5: {1, 0}}, odd)
}

func TestApart(t *testing.T) {
	one, other := table.New(), table.New()
	one.Take(table.Place{Size: 1, Cell: 2})
	same(t, "a table beside another one", other, plain{}, append(odd, table.Place{Size: 1, Cell: 2}))
	other.Take(table.Place{Size: 3, Cell: 4})
	one.Give(4)
	same(t, "a table beside one that gave", other, plain{4: {3, 4}}, odd)
	same(t, "a table that gave beside another one", one, plain{}, append(odd, table.Place{Size: 3, Cell: 4}))
}

// Long walks of calls, right and wrong, are held against plain pairs: in one all identities come to be taken.
func TestLongWalk(t *testing.T) {
	step := uint32(1)
	pick := func(n int) int {
		step = step*1664525 + 1013904223
		return int(step>>8) % n
	}
	for _, far := range []int{3, 12, 1100} {
		ids, m := table.New(), plain{}
		place := func() table.Place { return table.Place{Size: pick(5), Cell: pick(far)} }
		id := func() int { return pick(far+8) - 1 }
		for i := range 6000 {
			switch kind := pick(16); {
			case kind < 9:
				p := place()
				if got, want := ids.Take(p), m.take(p); got != want {
					t.Fatalf("P7.1: the walk: Take(%v): %d, not %d", p, got, want)
				}
			case kind < 12:
				x := id()
				if got, want := ids.Give(x), m.give(x); got != want {
					t.Fatalf("P7.1: the walk: Give(%d): %v, not %v", x, got, want)
				}
			default:
				x, y := id(), id()
				if got, want := ids.Swap(x, y), m.swap(x, y); got != want {
					t.Fatalf("P7.1: the walk: Swap(%d, %d): %v, not %v", x, y, got, want)
				}
			}
			if i%50 == 0 {
				same(t, "the walk", ids, m, odd)
			}
		}
		same(t, "the walk's end", ids, m, odd)
	}
}
