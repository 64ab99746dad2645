package store_test

import (
	"math"
	"math/rand"
	"slices"
	"testing"

	"treadwheel/api"
	"treadwheel/heap"
	"treadwheel/store"
	"treadwheel/unit"
)

func val(kind, n int) api.Val { return api.Val{Kind: kind, N: n} }

// program is a right one, whose objects have fields of each kind, and lead to one another forth, back and round.
func program() api.Unit {
	return api.Unit{
		Names: []string{"main", "at:"},
		Classes: []api.Class{
			{Name: "Block", Super: -1, Fields: 4},
			{Name: "Array", Super: -1},
			{Name: "Pair", Super: -1, Fields: 2, Binds: []api.Bind{{Sel: 0, Method: 0}}},
			{Name: "Triple", Super: 2, Fields: 3, Binds: []api.Bind{{Sel: 1, Method: 1}}},
			{Name: "Nought", Super: -1},
		},
		Methods: []api.Method{
			{Code: []byte{14, 0}},
			{Args: 1, Lits: []api.Val{val(3, 5), val(6, 3)}, Code: []byte{0, 0, 2, 0, 14, 0}},
		},
		Objects: []api.Obj{
			{Class: 2, Fields: []api.Val{val(4, 1), val(0, 0)}},
			{Class: 3, Fields: []api.Val{val(1, 0), val(2, 0), val(3, -7)}},
			{Class: 1, Fields: []api.Val{val(4, 2), val(4, 0), val(4, 4), val(3, -1<<30), val(3, 1<<30-1), val(3, 0), val(3, -1)}},
			{Class: 4},
			{Class: 1, Fields: make([]api.Val, 62)},
		},
	}
}

// programWords are the words of program's fields, where identity says which one each object has.
func programWords(identity func(i int) int) [][]uint32 {
	oop := func(i int) uint32 { return uint32(identity(i) * 2) }
	return [][]uint32{
		{oop(1), 2},
		{6, 4, 1<<32 - 13},
		{oop(2), oop(0), oop(4), 1<<31 + 1, 1<<31 - 1, 1, 1<<32 - 1},
		nil,
		slices.Repeat([]uint32{2}, 62),
	}
}

// holds tells t where the identities in s are not those of u's objects, or their fields are not the words.
func holds(t *testing.T, what string, s store.Store, u api.Unit, ids []int, words [][]uint32) {
	t.Helper()
	if len(ids) != len(u.Objects) {
		t.Fatalf("P18.1: %s: Load: %v, of %d objects", what, ids, len(u.Objects))
	}
	for i, o := range u.Objects {
		if c, f := s.Class(ids[i]), s.Fields(ids[i]); c != o.Class || f != len(o.Fields) {
			t.Fatalf("P18.1: %s: object %d: class %d, %d fields, not %d, %d", what, i, c, f, o.Class, len(o.Fields))
		}
		for f, want := range words[i] {
			if w, ok := s.Get(ids[i], f); w != want || !ok {
				t.Fatalf("P18.1: %s: object %d, field %d: %#x, %v, not %#x", what, i, f, w, ok, want)
			}
		}
	}
}

// refused tells t if a Load is not refused as the chapter asks.
func refused(t *testing.T, what string, s store.Store, u api.Unit) {
	t.Helper()
	if ids, ok := store.Load(s, u); ids != nil || ok {
		t.Errorf("P18.1, R3: Load, %s: %v, %v", what, ids, ok)
	}
}

func memory(cells ...int) *heap.Heap {
	c := api.Config{Pace: 1}
	copy(c.Cells[:], cells)
	return heap.New(c)
}

func TestLoad(t *testing.T) {
	u := program()
	for _, c := range []struct {
		what  string
		s     store.Store
		ahead int
	}{
		{"a new Ideal", store.New(), 0},
		{"an Ideal that has some", store.New(), 7},
		{"a memory that is full then", memory(2, 1, 1, 0, 1), 0},
		{"a memory that has some", memory(8, 1, 1, 0, 1), 6},
	} {
		for range c.ahead {
			c.s.Alloc(9, 1)
		}
		ids, ok := store.Load(c.s, u)
		first := 4 + c.ahead
		if want := []int{first, first + 1, first + 2, first + 3, first + 4}; !ok || !slices.Equal(ids, want) {
			t.Fatalf("P18.1: Load, %s: %v, %v, not %v", c.what, ids, ok, want)
		}
		holds(t, c.what, c.s, u, ids, programWords(func(i int) int { return first + i }))
		for i := range c.ahead {
			if w, ok := c.s.Get(4+i, 0); w != 2 || !ok || c.s.Class(4+i) != 9 {
				t.Errorf("P18.1: Load, %s: the object %d that was there is another", c.what, 4+i)
			}
		}
	}
}

func TestLoadTwice(t *testing.T) {
	s, u := store.New(), program()
	a, _ := store.Load(s, u)
	b, ok := store.Load(s, u)
	if !ok || len(b) != 5 || b[0] != 9 || s.Len() != 10 {
		t.Errorf("P18.1: Load once more: %v, %v, Len %d", b, ok, s.Len())
	}
	holds(t, "once", s, u, a, programWords(func(i int) int { return 4 + i }))
	holds(t, "once more", s, u, b, programWords(func(i int) int { return 9 + i }))
}

// call is one of a Store.
type call struct {
	name string
	a, b int
	w    uint32
}

// noted is a Store that notes what is asked of it, and gives identities of its own.
type noted struct {
	ids   []int
	calls []call
	panic int // the call that panics; 0: none does
}

func (n *noted) note(c call) {
	n.calls = append(n.calls, c)
	if len(n.calls) == n.panic {
		panic("a store that fails")
	}
}

func (n *noted) Alloc(class, fields int) int {
	n.note(call{"Alloc", class, fields, 0})
	if len(n.calls) > len(n.ids) {
		return -1
	}
	return n.ids[len(n.calls)-1]
}

func (n *noted) Get(id, i int) (uint32, bool) {
	n.note(call{"Get", id, i, 0})
	return 0, false
}

func (n *noted) Put(id, i int, w uint32) bool {
	n.note(call{"Put", id, i, w})
	return true
}

func (n *noted) Class(id int) int {
	n.note(call{"Class", id, 0, 0})
	return -1
}

func (n *noted) Fields(id int) int {
	n.note(call{"Fields", id, 0, 0})
	return -1
}

func (n *noted) Swap(a, b int) bool {
	n.note(call{"Swap", a, b, 0})
	return false
}

// wantCalls are the chapter's: Alloc of each object, in order, then all its fields, Put.
func wantCalls(u api.Unit, ids []int, words [][]uint32) []call {
	var l []call
	for _, o := range u.Objects {
		l = append(l, call{"Alloc", o.Class, len(o.Fields), 0})
	}
	for i := range u.Objects {
		for f, w := range words[i] {
			l = append(l, call{"Put", ids[i], f, w})
		}
	}
	return l
}

func TestLoadOfAnyStore(t *testing.T) {
	u := program()
	for _, ids := range [][]int{
		{4, 5, 6, 7, 8},
		{8, 7, 6, 5, 4},
		{1023, 4, 77, 5, 500},
		{1<<31 - 1, 1 << 30, 1<<30 + 1, 1 << 16, 1<<31 - 2},
	} {
		s := &noted{ids: ids}
		got, ok := store.Load(s, u)
		if !ok || !slices.Equal(got, ids) {
			t.Errorf("P18.1: Load where the identities are %v: %v, %v", ids, got, ok)
		}
		if want := wantCalls(u, ids, programWords(func(i int) int { return ids[i] })); !slices.Equal(s.calls, want) {
			t.Errorf("P18.1: Load's calls, where the identities are %v:\n%v, not\n%v", ids, s.calls, want)
		}
	}
}

// A store that has no room for each of the objects in turn: nothing is laid into those ahead of it.
func TestLoadWithoutRoom(t *testing.T) {
	u := program()
	for n := range 5 {
		s := &noted{ids: []int{9, 8, 7, 6, 5}[:n]}
		refused(t, "a store that is full", s, u)
		if len(s.calls) != n+1 || slices.ContainsFunc(s.calls, func(c call) bool { return c.name != "Alloc" }) {
			t.Errorf("P18.1: Load, a store with room for %d: %v", n, s.calls)
		}
	}
	refused(t, "a memory without a cell for the last one", memory(9, 9, 9, 9, 0), u)
	refused(t, "a memory without a cell for the third", memory(9, 0, 0, 9, 9), u)
	refused(t, "a memory with one cell too few", memory(1, 1, 1, 0, 1), u)
	refused(t, "a memory with one cell too few", memory(2, 1, 0, 9, 1), u)
	h := memory(2, 1, 1, 0, 1)
	h.Alloc(1, 2)
	refused(t, "a memory that has one too many", h, u)
}

// wrongPrograms are some that unit.Right refuses, one of each kind, and what no store could take.
func wrongPrograms() []api.Unit {
	spoil := []func(u *api.Unit){
		func(u *api.Unit) { *u = api.Unit{} },
		func(u *api.Unit) { u.Names = make([]string, 49) },
		func(u *api.Unit) { u.Names[1] = "main" },
		func(u *api.Unit) { u.Classes = nil },
		func(u *api.Unit) { u.Classes[0].Fields = 3 },
		func(u *api.Unit) { u.Classes[2].Binds[0].Method = 1 },
		func(u *api.Unit) { u.Methods = nil },
		func(u *api.Unit) { u.Methods[1].Code[0] = 99 },
		func(u *api.Unit) { u.Objects = nil },
		func(u *api.Unit) { u.Objects = make([]api.Obj, 41) },
		func(u *api.Unit) { u.Objects[4].Class = 0 },
		func(u *api.Unit) { u.Objects[4].Class = 5 },
		func(u *api.Unit) { u.Objects[4].Class = -1 },
		func(u *api.Unit) { u.Objects[4].Fields = make([]api.Val, 63) },
		func(u *api.Unit) { u.Objects[3].Fields = make([]api.Val, 1) },
		func(u *api.Unit) { u.Objects[0].Fields = u.Objects[0].Fields[:1] },
		func(u *api.Unit) { u.Objects[0].Fields[0].N = 5 },
		func(u *api.Unit) { u.Objects[0].Fields[0].N = -1 },
		func(u *api.Unit) { u.Objects[0].Fields[0].N = math.MaxInt },
		func(u *api.Unit) { u.Objects[0].Fields[0].N = math.MinInt },
		func(u *api.Unit) { u.Objects[0].Fields[1].N = 1 },
		func(u *api.Unit) { u.Objects[0].Fields[1].Kind = 5 },
		func(u *api.Unit) { u.Objects[0].Fields[1].Kind = -1 },
		func(u *api.Unit) { u.Objects[1].Fields[2].N = 1 << 30 },
		func(u *api.Unit) { u.Objects[1].Fields[2].N = -1<<30 - 1 },
		func(u *api.Unit) { u.Main = 1 },
		func(u *api.Unit) { u.Main = 2 },
		func(u *api.Unit) { u.Main = -1 },
	}
	var l []api.Unit
	for _, f := range spoil {
		u := program()
		f(&u)
		l = append(l, u)
	}
	return l
}

func TestLoadWrong(t *testing.T) {
	for i, u := range wrongPrograms() {
		s := &noted{ids: make([]int, 100)}
		refused(t, "a wrong program", s, u)
		if len(s.calls) > 0 {
			t.Errorf("R3: Load of the wrong program %d asked the store: %v", i, s.calls)
		}
		ideal := store.New()
		refused(t, "a wrong program", ideal, u)
		if ideal.Len() != 0 {
			t.Errorf("R3: Load of the wrong program %d left %d objects", i, ideal.Len())
		}
		refused(t, "a wrong program, no store", nil, u)
	}
}

func TestLoadOfNil(t *testing.T) {
	refused(t, "no store", nil, program())
	var h *heap.Heap
	refused(t, "no memory", h, program())
	refused(t, "a memory that may not be", memory(), program())
	var s *store.Ideal
	refused(t, "no Ideal", s, program())
	refused(t, "no Ideal, no program", s, api.Unit{})
}

// R1: no call panics, whatever it is given, a store too.
func TestLoadOfFailingStore(t *testing.T) {
	u := program()
	calls := len(wantCalls(u, make([]int, 5), programWords(func(int) int { return 0 })))
	for at := 1; at <= calls; at++ {
		refused(t, "a store that panics", &noted{ids: []int{4, 5, 6, 7, 8}, panic: at}, u)
	}
	if ids, ok := store.Load(&noted{ids: []int{4, 5, 6, 7, 8}, panic: calls + 1}, u); len(ids) != 5 || !ok {
		t.Errorf("P18.1: Load calls more than it should: %v, %v", ids, ok)
	}
}

// roomy is l with so many more of its like in the room behind its length.
func roomy[T any](l []T, more ...T) []T {
	all := append(slices.Clone(l), more...)
	return all[:len(l)]
}

// whole is u with the rooms of its lists of objects as if they were no rooms.
func whole(u api.Unit) api.Unit {
	u.Objects = slices.Clone(u.Objects[:cap(u.Objects)])
	for i, o := range u.Objects {
		u.Objects[i].Fields = slices.Clone(o.Fields[:cap(o.Fields)])
	}
	return u
}

func TestLoadKeepsNothing(t *testing.T) {
	u := program()
	for i, o := range u.Objects {
		u.Objects[i].Fields = roomy(o.Fields, val(9, 9), val(4, 0), val(3, 1))
	}
	u.Objects = roomy(u.Objects, api.Obj{Class: 99}, api.Obj{Class: 4})
	ahead := unit.Copy(whole(u))
	s := store.New()
	ids, ok := store.Load(s, u)
	if !ok || s.Len() != 5 {
		t.Fatalf("R5: Load of a program with room behind its lists: %v, %d objects", ok, s.Len())
	}
	if !unit.Same(whole(u), ahead) {
		t.Error("R2: Load changed its program")
	}
	mine := slices.Clone(ids)
	for i := range ids {
		ids[i] = -5
	}
	for _, o := range u.Objects {
		for f := range o.Fields {
			o.Fields[f] = val(3, 77)
		}
	}
	holds(t, "behind changes of what was handed in and answered", s, program(), mine, programWords(func(i int) int { return 4 + i }))
}

func TestLoadOfEmptyLists(t *testing.T) {
	u := api.Unit{
		Names:   []string{},
		Classes: []api.Class{{Name: "B", Super: -1, Fields: 4, Binds: []api.Bind{}}, {Name: "A", Super: -1}},
		Methods: []api.Method{{Lits: []api.Val{}, Code: []byte{14, 0}}},
		Objects: []api.Obj{{Class: 1, Fields: []api.Val{}}},
	}
	for range 2 {
		s := store.New()
		if ids, ok := store.Load(s, u); !ok || !slices.Equal(ids, []int{4}) || s.Class(4) != 1 || s.Fields(4) != 0 {
			t.Errorf("R4: Load of an object without fields: %v, %v", ids, ok)
		}
		u.Names, u.Objects[0].Fields = nil, nil
	}
}

// drawn answers a right program of drawn objects, and its words in a store whose first identity is first.
func drawn(r *rand.Rand, first int) (api.Unit, [][]uint32) {
	u := program()
	u.Objects = make([]api.Obj, 1+r.Intn(40))
	words := make([][]uint32, len(u.Objects))
	for i := range u.Objects {
		o := &u.Objects[i]
		o.Class = 1 + r.Intn(4)
		o.Fields = make([]api.Val, []int{0, r.Intn(63), 2, 3, 0}[o.Class])
		for f := range o.Fields {
			n := r.Intn(len(u.Objects))
			number := r.Intn(1<<31) - 1<<30
			k := r.Intn(5)
			o.Fields[f] = []api.Val{{}, val(1, 0), val(2, 0), val(3, number), val(4, n)}[k]
			words[i] = append(words[i], []uint32{2, 6, 4, uint32(2*number + 1), uint32(2 * (first + n))}[k])
		}
	}
	return u, words
}

func TestLoadDrawn(t *testing.T) {
	r := rand.New(rand.NewSource(183))
	for range 300 {
		first := 4 + r.Intn(3)
		u, words := drawn(r, first)
		for _, s := range []store.Store{store.New(), memory(204, 204, 204, 204, 204)} {
			for range first - 4 {
				s.Alloc(0, 4)
			}
			ids, ok := store.Load(s, u)
			if !ok || ids[0] != first {
				t.Fatalf("P18.1: Load of a drawn program: %v, %v", ids, ok)
			}
			holds(t, "a drawn program", s, u, ids, words)
		}
	}
}
