package unit_test

import (
	"math"
	"math/rand"
	"slices"
	"strconv"
	"testing"

	"treadwheel/api"
	"treadwheel/unit"
)

// wild are numbers that nothing has.
var wild = []int{-1, -2, -3, -5, math.MinInt, math.MinInt + 1, math.MinInt32, math.MinInt32 - 1, math.MaxInt, math.MaxInt - 1, math.MaxInt32, math.MaxInt32 + 1, 1 << 32, 1<<32 + 1, 1<<32 + 2, 1<<16 + 1, 1 << 40, -1 << 40, 100, 1000, 1 << 20}

func val(kind, n int) api.Val { return api.Val{Kind: kind, N: n} }

// ret is the code of a method that answers at once.
func ret() []byte { return []byte{14, 0} }

// roomy is l with so many more of its like in the room behind its length.
func roomy[T any](l []T, more ...T) []T {
	all := append(slices.Clone(l), more...)
	return all[:len(l)]
}

// program is a right one, with something of each kind in it.
func program() api.Unit {
	return api.Unit{
		Names: []string{"main", "at:", "at:put:", "+", "<=", "size"},
		Classes: []api.Class{
			{Name: "Block", Super: -1, Fields: 4, Binds: []api.Bind{{Sel: 0, Method: 0}}},
			{Name: "Array", Super: -1, Binds: []api.Bind{{Sel: 1, Method: 1}, {Sel: 2, Method: 2}}},
			{Name: "Pair", Super: -1, Fields: 2, Binds: []api.Bind{{Sel: 3, Method: 1}, {Sel: 0, Method: 3}}},
			{Name: "Triple", Super: 2, Fields: 3, Binds: []api.Bind{{Sel: 4, Method: 1}, {Sel: 3, Method: 4}}},
			{Name: "Row", Super: 1, Fields: 5},
			{Name: "Nought", Super: -1},
		},
		Methods: []api.Method{
			{Code: ret()},
			{Args: 1, Temps: 2, Lits: []api.Val{val(3, 5), val(5, 1)}, Code: []byte{0, 0, 10, 2, 8, 0, 2, 0, 14, 0}},
			{Args: 2, Lits: []api.Val{val(5, 2), val(6, 3), val(7, 0), val(3, -1<<30)}, Code: []byte{18, 2, 8, 0, 20, 1, 12, 0, 14, 0}},
			{Temps: 1, Code: []byte{3, 0, 17, 1, 15, 0, 16, 0}},
			{Args: 1, Lits: []api.Val{val(3, 1<<30-1)}, Code: []byte{0, 0, 19, 0}},
		},
		Objects: []api.Obj{
			{Class: 2, Fields: []api.Val{val(4, 1), val(0, 0)}},
			{Class: 3, Fields: []api.Val{val(1, 0), val(2, 0), val(3, 7)}},
			{Class: 1, Fields: []api.Val{val(4, 0), val(4, 2), val(3, -1<<30), val(3, 1<<30-1)}},
			{Class: 4, Fields: []api.Val{val(4, 4), val(4, 3), val(0, 0), val(0, 0), val(3, 0)}},
			{Class: 5},
			{Class: 1},
		},
		Main: 3,
	}
}

// twin is u once more, its rooms too: nothing in it is that of u.
func twin(u api.Unit) api.Unit {
	u.Names = twinOf(u.Names)
	u.Classes = twinOf(u.Classes)
	for i := range u.Classes {
		u.Classes[i].Binds = twinOf(u.Classes[i].Binds)
	}
	u.Methods = twinOf(u.Methods)
	for i := range u.Methods {
		u.Methods[i].Lits = twinOf(u.Methods[i].Lits)
		u.Methods[i].Code = twinOf(u.Methods[i].Code)
	}
	u.Objects = twinOf(u.Objects)
	for i := range u.Objects {
		u.Objects[i].Fields = twinOf(u.Objects[i].Fields)
	}
	return u
}

func twinOf[T any](l []T) []T {
	if l == nil {
		return nil
	}
	all := make([]T, cap(l))
	copy(all, l[:cap(l)])
	return all[:len(l)]
}

// told is all of u as a text, the rooms of its lists too.
func told(u api.Unit) string {
	b := []byte("main " + strconv.Itoa(u.Main))
	for i, s := range u.Names[:cap(u.Names)] {
		b = append(b, "\nname "+strconv.Itoa(i)+" "+strconv.Quote(s)...)
	}
	for _, c := range u.Classes[:cap(u.Classes)] {
		b = append(b, "\nclass "+strconv.Quote(c.Name)+" "+strconv.Itoa(c.Super)+" "+strconv.Itoa(c.Fields)...)
		for _, x := range c.Binds[:cap(c.Binds)] {
			b = append(b, " "+strconv.Itoa(x.Sel)+":"+strconv.Itoa(x.Method)...)
		}
	}
	for _, m := range u.Methods[:cap(u.Methods)] {
		b = append(b, "\nmethod "+strconv.Itoa(m.Args)+" "+strconv.Itoa(m.Temps)...)
		b = append(tellVals(b, m.Lits), " code"...)
		for _, x := range m.Code[:cap(m.Code)] {
			b = append(b, " "+strconv.Itoa(int(x))...)
		}
	}
	for _, o := range u.Objects[:cap(u.Objects)] {
		b = tellVals(append(b, "\nobject "+strconv.Itoa(o.Class)...), o.Fields)
	}
	return string(b)
}

func tellVals(b []byte, l []api.Val) []byte {
	for _, v := range l[:cap(l)] {
		b = append(b, " "+strconv.Itoa(v.Kind)+":"+strconv.Itoa(v.N)...)
	}
	return b
}

// unchanged calls do with u, and tells t if u is another behind it.
func unchanged(t *testing.T, what string, u api.Unit, do func()) {
	t.Helper()
	ahead := told(u)
	do()
	if told(u) != ahead {
		t.Errorf("R2: %s changed what it was given", what)
	}
}

// plainFind goes up by itself, and looks for the first bind.
func plainFind(u api.Unit, class, sel int) int {
	for range 8 {
		if class < 0 || class >= len(u.Classes) {
			return -1
		}
		at := slices.IndexFunc(u.Classes[class].Binds, func(b api.Bind) bool { return b.Sel == sel })
		if at >= 0 {
			return u.Classes[class].Binds[at].Method
		}
		class = u.Classes[class].Super
	}
	return -1
}

func TestFind(t *testing.T) {
	u := program()
	for _, c := range []struct{ class, sel, want int }{
		{0, 0, 0}, {0, 1, -1}, {0, 3, -1},
		{1, 1, 1}, {1, 2, 2}, {1, 0, -1}, {1, 5, -1},
		{2, 3, 1}, {2, 0, 3}, {2, 4, -1}, {2, 1, -1},
		{3, 3, 4}, {3, 0, 3}, {3, 4, 1}, {3, 1, -1}, {3, 5, -1},
		{4, 1, 1}, {4, 2, 2}, {4, 0, -1},
		{5, 0, -1}, {5, 1, -1},
		{6, 0, -1}, {-1, 0, -1},
	} {
		unchanged(t, "Find", u, func() {
			if got := unit.Find(u, c.class, c.sel); got != c.want {
				t.Errorf("P15.2: Find(class %d, name %d): %d, not %d", c.class, c.sel, got, c.want)
			}
		})
	}
	if got := unit.Find(api.Unit{}, 0, 0); got != -1 {
		t.Errorf("P15.2: Find of no class: %d", got)
	}
	for _, n := range append([]int{6, 7, 48}, wild...) {
		for i := range 6 {
			if unit.Find(u, n, i) != -1 || unit.Find(u, i, n) != -1 {
				t.Errorf("P15.2: Find of %d: %d, %d", n, unit.Find(u, n, i), unit.Find(u, i, n))
			}
		}
		if unit.Find(u, n, n) != -1 {
			t.Errorf("P15.2: Find of %d, %d: %d", n, n, unit.Find(u, n, n))
		}
	}
}

// Rows that are not right: rounds, Supers that are no class, names and methods of any number, binds in the rooms.
func TestFindOfWrongRows(t *testing.T) {
	u := api.Unit{Classes: roomy([]api.Class{
		{Super: 1, Binds: roomy([]api.Bind{{Sel: 1, Method: 10}}, api.Bind{Sel: 9, Method: 9})},
		{Super: 0, Binds: []api.Bind{{Sel: 2, Method: 20}, {Sel: 2, Method: 21}, {Sel: -1, Method: 22}}},
		{Super: 2},
		{Super: 5, Binds: []api.Bind{{Sel: math.MaxInt, Method: math.MinInt}, {Sel: math.MinInt, Method: math.MaxInt}}},
		{Super: math.MinInt, Binds: []api.Bind{{Sel: 7, Method: -1}}},
	}, api.Class{Super: -1, Binds: []api.Bind{{Sel: 8, Method: 8}}})}
	for class := -2; class < 7; class++ {
		for _, sel := range append([]int{0, 1, 2, 7, 8, 9}, wild...) {
			if got, want := unit.Find(u, class, sel), plainFind(u, class, sel); got != want {
				t.Errorf("P15.2: Find(class %d, name %d) of a wrong row: %d, not %d", class, sel, got, want)
			}
		}
	}
	if got := unit.Find(u, 0, 2); got != 20 {
		t.Errorf("P15.2, R10: Find of a name that is bound twice: %d", got)
	}
	if got := unit.Find(u, 1, -1); got != 22 {
		t.Errorf("P15.2: Find of a bound name below 0: %d", got)
	}
}

// Chain ends at MaxDepth classes: what the ninth binds is not found.
func TestFindDeep(t *testing.T) {
	u := api.Unit{Classes: make([]api.Class, 12)}
	for i := range u.Classes {
		u.Classes[i] = api.Class{Super: i - 1, Binds: []api.Bind{{Sel: i, Method: 100 + i}}}
	}
	for class := range 12 {
		for sel := range 12 {
			want := -1
			if sel <= class && class-sel < 8 {
				want = 100 + sel
			}
			if got := unit.Find(u, class, sel); got != want {
				t.Errorf("P15.2: Find(class %d, name %d): %d, not %d", class, sel, got, want)
			}
		}
	}
}

func TestFindDrawn(t *testing.T) {
	r := rand.New(rand.NewSource(151))
	found := 0
	for range 4000 {
		u := api.Unit{Classes: make([]api.Class, r.Intn(12))}
		for i := range u.Classes {
			u.Classes[i].Super = r.Intn(14) - 1
			for range r.Intn(4) {
				u.Classes[i].Binds = append(u.Classes[i].Binds, api.Bind{Sel: r.Intn(8), Method: r.Intn(50)})
			}
		}
		for range 20 {
			class, sel := r.Intn(14)-1, r.Intn(9)
			got, want := unit.Find(u, class, sel), plainFind(u, class, sel)
			if got != want {
				t.Fatalf("P15.2: Find(class %d, name %d) of %v: %d, not %d", class, sel, u.Classes, got, want)
			}
			if got >= 0 {
				found++
			}
		}
	}
	if found < 5000 {
		t.Errorf("found too seldom: %d", found)
	}
}

// wordsOf is the least of the cells that takes the fields and a head.
func wordsOf(fields int) int {
	for _, words := range []int{4, 8, 16, 32, 64} {
		if fields+2 <= words {
			return words
		}
	}
	return 0
}

func TestWords(t *testing.T) {
	if n := unit.Words(api.Unit{}); n != 0 {
		t.Errorf("P15.2: Words of nothing: %d", n)
	}
	if n := unit.Words(program()); n != 4+8+8+8+4+4 {
		t.Errorf("P15.2: Words: %d", n)
	}
	var all []api.Obj
	sum := 0
	for fields := range 200 {
		o := api.Obj{Class: fields % 5, Fields: make([]api.Val, fields)}
		all = append(all, o)
		sum += wordsOf(fields)
		one := api.Unit{Objects: []api.Obj{o}}
		if n := unit.Words(one); n != wordsOf(fields) {
			t.Errorf("P15.2: Words of an object of %d fields: %d, not %d", fields, n, wordsOf(fields))
		}
		u := api.Unit{Objects: roomy(all, o, o)}
		unchanged(t, "Words", u, func() {
			if n := unit.Words(u); n != sum {
				t.Errorf("P15.2: Words of %d objects: %d, not %d", fields+1, n, sum)
			}
		})
	}
	many := api.Unit{Objects: []api.Obj{{Fields: make([]api.Val, 1<<20)}, {Fields: make([]api.Val, 62, 100)}, {Fields: make([]api.Val, 63)}, {Fields: make([]api.Val, 0, 100)}}}
	if n := unit.Words(many); n != 64+4 {
		t.Errorf("P15.2: Words of objects that no cell takes: %d", n)
	}
	wrong := api.Unit{Objects: []api.Obj{{Class: -7, Fields: []api.Val{val(9, 9)}}, {Class: math.MaxInt}}, Main: math.MinInt}
	if n := unit.Words(wrong); n != 8 {
		t.Errorf("P15.2: Words of a wrong program: %d", n)
	}
}
