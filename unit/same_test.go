package unit_test

import (
	"math/rand"
	"strings"
	"testing"

	"treadwheel/api"
	"treadwheel/unit"
)

// same tells t where a and b, either way round, are not told so.
func same(t *testing.T, what string, a, b api.Unit, want bool) {
	t.Helper()
	unchanged(t, "Same", a, func() {
		unchanged(t, "Same", b, func() {
			if unit.Same(a, b) != want || unit.Same(b, a) != want {
				t.Errorf("P15.2: Same, %s: %v and %v, not %v", what, unit.Same(a, b), unit.Same(b, a), want)
			}
		})
	})
}

// numbersOf are the places of all numbers in u.
func numbersOf(u *api.Unit) []*int {
	l := []*int{&u.Main}
	for i := range u.Classes {
		c := &u.Classes[i]
		l = append(l, &c.Super, &c.Fields)
		for j := range c.Binds {
			l = append(l, &c.Binds[j].Sel, &c.Binds[j].Method)
		}
	}
	for i := range u.Methods {
		m := &u.Methods[i]
		l = append(l, &m.Args, &m.Temps)
		for j := range m.Lits {
			l = append(l, &m.Lits[j].Kind, &m.Lits[j].N)
		}
	}
	for i := range u.Objects {
		o := &u.Objects[i]
		l = append(l, &o.Class)
		for j := range o.Fields {
			l = append(l, &o.Fields[j].Kind, &o.Fields[j].N)
		}
	}
	return l
}

func textsOf(u *api.Unit) []*string {
	var l []*string
	for i := range u.Names {
		l = append(l, &u.Names[i])
	}
	for i := range u.Classes {
		l = append(l, &u.Classes[i].Name)
	}
	return l
}

func bytesOf(u *api.Unit) []*byte {
	var l []*byte
	for i := range u.Methods {
		for j := range u.Methods[i].Code {
			l = append(l, &u.Methods[i].Code[j])
		}
	}
	return l
}

// a row is one of u's lists: what may be done with it whatever it is of.
type row struct {
	length int
	cut    func()     // its last one is gone
	grow   func()     // one more like its last one, or a zero
	swap   func() int // its first two change places; how many are different then
	fill   func()     // all that it has room for is made into something else
}

func rowOf[T any](l *[]T, equal func(a, b T) bool, other T) row {
	return row{
		length: len(*l),
		cut:    func() { *l = (*l)[:len(*l)-1] },
		grow: func() {
			var one T
			if len(*l) > 0 {
				one = (*l)[len(*l)-1]
			}
			*l = append(*l, one)
		},
		swap: func() int {
			if len(*l) < 2 || equal((*l)[0], (*l)[1]) {
				return 0
			}
			(*l)[0], (*l)[1] = (*l)[1], (*l)[0]
			return 2
		},
		fill: func() {
			all := (*l)[:cap(*l)]
			for i := range all {
				all[i] = other
			}
		},
	}
}

// rowsOf are all lists of u, the inner ones first.
func rowsOf(u *api.Unit) []row {
	var l []row
	for i := range u.Classes {
		l = append(l, rowOf(&u.Classes[i].Binds, func(a, b api.Bind) bool { return a == b }, api.Bind{Sel: 77, Method: 78}))
	}
	for i := range u.Methods {
		l = append(l, rowOf(&u.Methods[i].Lits, func(a, b api.Val) bool { return a == b }, val(79, 80)))
		l = append(l, rowOf(&u.Methods[i].Code, func(a, b byte) bool { return a == b }, 81))
	}
	for i := range u.Objects {
		l = append(l, rowOf(&u.Objects[i].Fields, func(a, b api.Val) bool { return a == b }, val(82, 83)))
	}
	l = append(l, rowOf(&u.Names, func(a, b string) bool { return a == b }, "other"))
	l = append(l, rowOf(&u.Classes, func(a, b api.Class) bool { return a.Name == b.Name }, api.Class{Name: "other"}))
	l = append(l, rowOf(&u.Methods, func(a, b api.Method) bool { return a.Args == b.Args && a.Temps == b.Temps }, api.Method{Args: 84}))
	l = append(l, rowOf(&u.Objects, func(a, b api.Obj) bool { return a.Class == b.Class }, api.Obj{Class: 85}))
	return l
}

// some are units of many kinds, right ones and wrong ones.
func some() []api.Unit {
	wrong := program()
	wrong.Names[1] = ""
	wrong.Names[2] = ":"
	wrong.Classes[3].Super = 90
	wrong.Classes[1].Binds[0].Sel = -1 << 63
	wrong.Methods[0].Code = []byte{255}
	wrong.Methods[1].Temps = 1<<63 - 1
	wrong.Objects[0] = api.Obj{Class: -4, Fields: make([]api.Val, 70)}
	wrong.Main = 1 << 40
	wide := program()
	wide.Names = roomy(wide.Names, "a", "b", "c")
	wide.Classes = roomy(wide.Classes, api.Class{Name: "More", Binds: []api.Bind{{Sel: 1}}}, api.Class{})
	wide.Classes[2].Binds = roomy(wide.Classes[2].Binds, api.Bind{Sel: 4, Method: 4})
	wide.Methods = roomy(wide.Methods, api.Method{Code: ret()})
	wide.Methods[2].Lits = roomy(wide.Methods[2].Lits, val(3, 3))
	wide.Methods[2].Code = roomy(wide.Methods[2].Code, 14, 0)
	wide.Objects = roomy(wide.Objects, api.Obj{Class: 5})
	wide.Objects[1].Fields = roomy(wide.Objects[1].Fields, val(3, 3), val(4, 4))
	return []api.Unit{program(), wrong, wide}
}

func TestSameOfNumbers(t *testing.T) {
	for _, a := range some() {
		same(t, "itself", a, a, true)
		same(t, "a twin", a, twin(a), true)
		for i := range numbersOf(&a) {
			for _, by := range []int{1, -1, 1 << 32, -1 << 63} {
				b := twin(a)
				*numbersOf(&b)[i] += by
				same(t, "another number", a, b, false)
				*numbersOf(&b)[i] -= by
				same(t, "the number again", a, b, true)
			}
		}
	}
}

func TestSameOfTextsAndBytes(t *testing.T) {
	for _, a := range some() {
		for i := range textsOf(&a) {
			b := twin(a)
			was := *textsOf(&b)[i]
			for _, s := range []string{was + "x", was + "\x00", "x" + was, strings.ToUpper(was) + strings.ToLower(was) + "q"} {
				*textsOf(&b)[i] = s
				same(t, "another text", a, b, false)
			}
			if was != "" {
				*textsOf(&b)[i] = was[1:]
				same(t, "a shorter text", a, b, false)
			}
			*textsOf(&b)[i] = strings.Clone(was)
			same(t, "the text again", a, b, true)
		}
		for i := range bytesOf(&a) {
			for _, bit := range []byte{1, 2, 128} {
				b := twin(a)
				*bytesOf(&b)[i] ^= bit
				same(t, "another byte", a, b, false)
			}
		}
	}
}

func TestSameOfLists(t *testing.T) {
	for _, a := range some() {
		for i, l := range rowsOf(&a) {
			b := twin(a)
			rowsOf(&b)[i].grow()
			same(t, "one more", a, b, false)
			if l.length > 0 {
				b = twin(a)
				rowsOf(&b)[i].cut()
				same(t, "one less", a, b, false)
			}
			b = twin(a)
			if rowsOf(&b)[i].swap() > 0 {
				same(t, "two that changed places", a, b, false)
			}
		}
	}
}

// nil and empty lists are the same, and what lies behind a list's length is nothing.
func TestSameOfEmptyAndRoom(t *testing.T) {
	empty := api.Unit{Names: []string{}, Classes: []api.Class{}, Methods: []api.Method{}, Objects: []api.Obj{}}
	same(t, "nothing", api.Unit{}, api.Unit{}, true)
	same(t, "empty lists and none", api.Unit{}, empty, true)
	inner := api.Unit{Classes: []api.Class{{}}, Methods: []api.Method{{}}, Objects: []api.Obj{{}}}
	filled := api.Unit{Classes: []api.Class{{Binds: []api.Bind{}}}, Methods: []api.Method{{Lits: []api.Val{}, Code: []byte{}}}, Objects: []api.Obj{{Fields: []api.Val{}}}}
	same(t, "empty lists within and none", inner, filled, true)
	same(t, "one of each, and nothing", inner, empty, false)
	for i := range rowsOf(&inner) {
		b := twin(inner)
		rowsOf(&b)[i].grow()
		same(t, "one more, a zero", inner, b, false)
	}
	a, wide := some()[0], some()[2]
	same(t, "rooms behind the lengths", a, wide, true)
	same(t, "rooms of nothing", api.Unit{Names: roomy(nil, "a"), Classes: roomy(nil, api.Class{Name: "a"}), Methods: roomy(nil, api.Method{Args: 1}), Objects: roomy(nil, api.Obj{Class: 1})}, empty, true)
}

func TestCopy(t *testing.T) {
	units := append(some(), api.Unit{}, api.Unit{Main: -1}, api.Unit{Names: []string{}, Classes: []api.Class{{Binds: []api.Bind{}}}, Methods: []api.Method{{}, {}}, Objects: []api.Obj{{Fields: []api.Val{}}, {}}})
	for _, u := range units {
		var c api.Unit
		unchanged(t, "Copy", u, func() { c = unit.Copy(u) })
		same(t, "a copy", u, c, true)
		same(t, "a copy of a copy", u, unit.Copy(c), true)
		if plainTold(c) != plainTold(u) {
			t.Errorf("P15.2: Copy: %s\nnot %s", plainTold(c), plainTold(u))
		}
	}
	for _, a := range some() {
		for _, b := range some()[:2] {
			same(t, "a copy and another", unit.Copy(a), b, plainTold(a) == plainTold(b))
		}
	}
}

// plainTold is all of u as a text, but for the rooms of its lists.
func plainTold(u api.Unit) string {
	u = twin(u)
	for i := range u.Classes {
		u.Classes[i].Binds = short(u.Classes[i].Binds)
	}
	for i := range u.Methods {
		u.Methods[i].Lits, u.Methods[i].Code = short(u.Methods[i].Lits), short(u.Methods[i].Code)
	}
	for i := range u.Objects {
		u.Objects[i].Fields = short(u.Objects[i].Fields)
	}
	u.Names, u.Classes, u.Methods, u.Objects = short(u.Names), short(u.Classes), short(u.Methods), short(u.Objects)
	return told(u)
}

func short[T any](l []T) []T { return l[:len(l):len(l)] }

// Whatever is done with a copy, spare room too, what it is of stays; and the other way round; and one list of a copy is none of another's.
func TestCopySharesNothing(t *testing.T) {
	for _, u := range some() {
		for i := range rowsOf(&u) {
			c := unit.Copy(u)
			ahead := told(u)
			rowsOf(&c)[i].fill()
			if told(u) != ahead {
				t.Errorf("R2: a list of a copy, number %d, is one of what it was copied from", i)
			}
			mine := twin(u)
			c = unit.Copy(mine)
			was := told(c)
			rowsOf(&mine)[i].fill()
			if told(c) != was {
				t.Errorf("R2: a list of a copy, number %d, is changed with what it was copied from", i)
			}
			onlyThat(t, u, i)
		}
	}
}

// onlyThat tells t if filling list i of a copy of u changes another one of it.
func onlyThat(t *testing.T, u api.Unit, i int) {
	t.Helper()
	c := unit.Copy(u)
	inner := len(rowsOf(&c)) - 4
	if i >= inner { // within these are others: what they are of is another then
		return
	}
	parts := apart(c)
	rowsOf(&c)[i].fill()
	for j, s := range apart(c) {
		if j != i && s != parts[j] {
			t.Errorf("R2: lists %d and %d of one copy share memory", i, j)
		}
	}
}

// apart tells each of the inner lists of u alone, its room too, in rowsOf's order.
func apart(u api.Unit) []string {
	var l []string
	for _, c := range u.Classes {
		l = append(l, told(api.Unit{Classes: []api.Class{{Binds: c.Binds}}}))
	}
	for _, m := range u.Methods {
		l = append(l, told(api.Unit{Methods: []api.Method{{Lits: m.Lits}}}), told(api.Unit{Methods: []api.Method{{Code: m.Code}}}))
	}
	for _, o := range u.Objects {
		l = append(l, told(api.Unit{Objects: []api.Obj{{Fields: o.Fields}}}))
	}
	return l
}

// One list that stands in a unit in several places is several lists in a copy.
func TestCopyOfSharedLists(t *testing.T) {
	binds, vals, bytes := []api.Bind{{Sel: 1, Method: 2}}, []api.Val{val(3, 4), val(0, 0)}, ret()
	u := api.Unit{
		Classes: []api.Class{{Binds: binds}, {Binds: binds}},
		Methods: []api.Method{{Lits: vals, Code: bytes}, {Lits: vals[:1], Code: bytes}},
		Objects: []api.Obj{{Fields: vals}, {Fields: vals[:1]}},
	}
	for i := range rowsOf(&u) {
		onlyThat(t, u, i)
	}
	same(t, "a copy of shared lists", u, unit.Copy(u), true)
}

// wildUnit is anything at all.
func wildUnit(r *rand.Rand) api.Unit {
	u := api.Unit{Main: r.Intn(3)}
	for range r.Intn(3) {
		u.Names = append(u.Names, "ab"[:r.Intn(3)])
	}
	for range r.Intn(3) {
		c := api.Class{Name: "ab"[:r.Intn(3)], Super: r.Intn(2), Fields: r.Intn(2)}
		for range r.Intn(3) {
			c.Binds = append(c.Binds, api.Bind{Sel: r.Intn(2), Method: r.Intn(2)})
		}
		u.Classes = append(u.Classes, c)
	}
	for range r.Intn(3) {
		m := api.Method{Args: r.Intn(2), Temps: r.Intn(2)}
		for range r.Intn(3) {
			m.Lits = append(m.Lits, val(r.Intn(2), r.Intn(2)))
		}
		for range r.Intn(3) {
			m.Code = append(m.Code, byte(r.Intn(2)))
		}
		u.Methods = append(u.Methods, m)
	}
	for range r.Intn(3) {
		o := api.Obj{Class: r.Intn(2)}
		for range r.Intn(3) {
			o.Fields = append(o.Fields, val(r.Intn(2), r.Intn(2)))
		}
		u.Objects = append(u.Objects, o)
	}
	return u
}

func TestSameDrawn(t *testing.T) {
	r := rand.New(rand.NewSource(152))
	for range 3000 {
		a, b := wildUnit(r), wildUnit(r)
		same(t, "drawn", a, b, plainTold(a) == plainTold(b))
		same(t, "drawn, and a copy", a, unit.Copy(a), true)
	}
}
