package unit_test

import (
	"math"
	"math/rand"
	"slices"
	"strconv"
	"strings"
	"testing"

	"treadwheel/api"
	"treadwheel/code"
	"treadwheel/shape"
	"treadwheel/unit"
)

// right tells t where Right is not the one wanted, or changes what it is given.
func right(t *testing.T, what string, u api.Unit, want api.Errno) {
	t.Helper()
	unchanged(t, "Right", u, func() {
		if got := unit.Right(u); got != want {
			t.Errorf("P15.1: %s: Right: %d, not %d", what, got, want)
		}
	})
}

// fits is OK where ok holds, else the refusal.
func fits(ok bool, refusal api.Errno) api.Errno {
	if ok {
		return api.OK
	}
	return refusal
}

func TestRight(t *testing.T) {
	right(t, "a right program", program(), api.OK)
	right(t, "nothing", api.Unit{}, api.ErrLong)
	least := api.Unit{
		Classes: []api.Class{{Name: "B", Super: -1, Fields: 4}, {Name: "A", Super: -1}},
		Methods: []api.Method{{Code: ret()}},
		Objects: []api.Obj{{Class: 1}},
	}
	right(t, "the least program", least, api.OK)
	least.Names, least.Classes[0].Binds, least.Methods[0].Lits, least.Objects[0].Fields = []string{}, []api.Bind{}, []api.Val{}, []api.Val{}
	right(t, "the least program, of empty lists", least, api.OK)
	empty := api.Unit{Names: []string{}, Classes: []api.Class{}, Methods: []api.Method{}, Objects: []api.Obj{}}
	right(t, "empty lists", empty, api.ErrLong)
}

// names are so many right ones, no two alike.
func names(many int) []string {
	l := make([]string, many)
	for i := range l {
		l[i] = "n" + strconv.Itoa(i)
	}
	return l
}

func TestRightOfLengths(t *testing.T) {
	for n := range 70 {
		u := program()
		u.Names = append(u.Names, names(n)...)
		right(t, "so many names", u, fits(len(u.Names) <= 48, api.ErrLong))
		u = program()
		for range n {
			u.Methods = append(u.Methods, api.Method{Code: ret()})
		}
		right(t, "so many methods", u, fits(len(u.Methods) <= 32, api.ErrLong))
		u = program()
		for range n {
			u.Objects = append(u.Objects, api.Obj{Class: 1})
		}
		right(t, "so many objects", u, fits(len(u.Objects) <= 40, api.ErrLong))
	}
	for _, spoil := range []func(u *api.Unit){
		func(u *api.Unit) { u.Methods = nil },
		func(u *api.Unit) { u.Methods = u.Methods[:0] },
		func(u *api.Unit) { u.Objects = nil },
		func(u *api.Unit) { u.Objects = u.Objects[:0] },
		func(u *api.Unit) { u.Methods, u.Objects, u.Names = nil, nil, make([]string, 49) },
		func(u *api.Unit) { u.Names = make([]string, 1<<16) },
		func(u *api.Unit) { u.Methods = make([]api.Method, 1<<16) },
		func(u *api.Unit) { u.Objects = make([]api.Obj, 1<<16) },
	} {
		u := program()
		spoil(&u)
		right(t, "too many, or none", u, api.ErrLong)
	}
	u := program()
	u.Names, u.Methods, u.Objects = roomy(u.Names, make([]string, 60)...), roomy(u.Methods, make([]api.Method, 60)...), roomy(u.Objects, make([]api.Obj, 60)...)
	right(t, "wrong ones in the rooms behind the lengths", u, api.OK)
}

func TestRightOfNames(t *testing.T) {
	for _, s := range []string{"", ":", ":a", "1", "1a", "a b", "a.", "+++", "+a", "a+", "!", "\x00", "a\x00", "a_", "é", strings.Repeat("a", 17), strings.Repeat("a", 300), "+ ", " +"} {
		for at := range 48 {
			u := program()
			u.Names = append(u.Names, names(42)...)
			u.Names[at] = s
			right(t, "no name: "+strconv.Quote(s), u, api.ErrName)
		}
	}
	for _, s := range []string{"a", "z:", "A1", "a:1", "a::", "Za9", "-", "~", "&|", "**", "%%", strings.Repeat("a", 16)} {
		u := program()
		u.Names = append(u.Names, s)
		right(t, "a name: "+s, u, api.OK)
	}
	for i := range 48 {
		for j := range i {
			u := program()
			u.Names = append(u.Names, names(42)...)
			u.Names[i] = strings.Clone(u.Names[j])
			right(t, "one name twice", u, api.ErrName)
			u.Names = roomy(u.Names[:i], u.Names[i])
			if i >= 6 {
				right(t, "the second one in the room", u, api.OK)
			}
		}
	}
	for _, s := range []string{"Main", "main:", "mai", "nmain", "at", "+<", "<", "=<", "siz", "sizee"} {
		u := program()
		u.Names = append(u.Names, s)
		right(t, "a name that is like another", u, api.OK)
	}
}

// wrongClasses are what shape refuses, each made of a right program.
func wrongClasses() []func(u *api.Unit) {
	return []func(u *api.Unit){
		func(u *api.Unit) { u.Classes = nil },
		func(u *api.Unit) { u.Classes = u.Classes[:1] },
		func(u *api.Unit) {
			for i := range 7 {
				u.Classes = append(u.Classes, api.Class{Name: "C" + strconv.Itoa(i), Super: -1})
			}
		},
		func(u *api.Unit) { u.Classes[0].Super = 1 },
		func(u *api.Unit) { u.Classes[0].Fields = 3 },
		func(u *api.Unit) { u.Classes[1].Super = 0 },
		func(u *api.Unit) { u.Classes[1].Fields = 1 },
		func(u *api.Unit) { u.Classes[0].Name = "" },
		func(u *api.Unit) { u.Classes[5].Name = "" },
		func(u *api.Unit) { u.Classes[5].Name = strings.Repeat("N", 17) },
		func(u *api.Unit) { u.Classes[5].Name = "Pair" },
		func(u *api.Unit) { u.Classes[3].Super = 3 },
		func(u *api.Unit) { u.Classes[3].Super = 4 },
		func(u *api.Unit) { u.Classes[3].Super = -2 },
		func(u *api.Unit) { u.Classes[3].Super = math.MaxInt },
		func(u *api.Unit) { u.Classes[3].Fields = 1 },
		func(u *api.Unit) { u.Classes[3].Fields = 63 },
		func(u *api.Unit) { u.Classes[5].Fields = -1 },
		func(u *api.Unit) { u.Classes[2].Binds[0].Sel = 6 },
		func(u *api.Unit) { u.Classes[2].Binds[0].Sel = -1 },
		func(u *api.Unit) { u.Classes[2].Binds[1].Method = 5 },
		func(u *api.Unit) { u.Classes[2].Binds[1].Method = -1 },
		func(u *api.Unit) { u.Classes[2].Binds[1].Sel = 3 },
		func(u *api.Unit) { u.Classes[5].Binds = make([]api.Bind, 17) },
	}
}

func TestRightOfShape(t *testing.T) {
	told := map[api.Errno]int{}
	for _, spoil := range wrongClasses() {
		u := program()
		spoil(&u)
		want := shape.Right(u.Classes, 6, 5)
		told[want]++
		right(t, "classes that shape refuses", u, want)
	}
	if told[api.OK] > 0 || told[api.ErrLong] < 1 || told[api.ErrName] < 1 || told[api.ErrClass] < 1 || told[api.ErrMethod] < 1 {
		t.Errorf("the refusals of shape: %v", told)
	}
	u := program()
	u.Classes = roomy(u.Classes, api.Class{}, api.Class{Name: "Pair"})
	right(t, "wrong classes in the room behind the length", u, api.OK)
}

// bound is a right program of 48 names and one class that binds these to a method.
func bound(sels ...int) api.Unit {
	u := program()
	u.Names = append(u.Names, names(42)...)
	u.Classes[5].Binds = nil
	for _, sel := range sels {
		method := []int{0, 1, 2, 1, 1, 0}
		m := 0
		if sel < len(method) {
			m = method[sel]
		}
		u.Classes[5].Binds = append(u.Classes[5].Binds, api.Bind{Sel: sel, Method: m})
	}
	return u
}

// goesIn tells whether all go into a dict: sixteen places, of each name four.
func goesIn(sels []int) bool {
	var taken [16]bool
	for _, sel := range sels {
		at := -1
		for i := 3; i >= 0; i-- {
			if place := (7*sel + i) % 16; !taken[place] {
				at = place
			}
		}
		if at < 0 {
			return false
		}
		taken[at] = true
	}
	return true
}

func TestRightOfDicts(t *testing.T) {
	right(t, "three of one place, and one at the next", bound(0, 16, 32, 7), api.OK)
	right(t, "four places taken, and a fifth name", bound(7, 14, 5, 0, 16), api.ErrClass)
	right(t, "the same names, and another order", bound(0, 16, 7, 14, 5), api.OK)
	u := bound(7, 14, 5, 0, 16)
	u.Classes[5].Binds = roomy(u.Classes[5].Binds[:4], u.Classes[5].Binds[4])
	right(t, "the fifth name in the room", u, api.OK)
	r := rand.New(rand.NewSource(153))
	no := 0
	for range 6000 {
		sels := r.Perm(48)[:r.Intn(17)]
		ok := goesIn(sels)
		if !ok {
			no++
		}
		right(t, "drawn binds", bound(sels...), fits(ok, api.ErrClass))
	}
	if no < 1000 || no > 5000 {
		t.Errorf("drawn binds that do not go in: %d", no)
	}
	for at := range 6 {
		u := bound(7, 14, 5, 0, 16)
		u.Classes[5].Binds, u.Classes[at].Binds = nil, u.Classes[5].Binds
		right(t, "a class whose binds do not go in", u, api.ErrClass)
	}
}

func TestRightOfMethods(t *testing.T) {
	long := []api.Method{{Code: make([]byte, 130)}, {Lits: make([]api.Val, 17)}, {Args: 9}, {Temps: -1}, {Args: math.MinInt, Temps: math.MaxInt}}
	form := []api.Method{{}, {Code: []byte{14}}, {Code: []byte{8, 0}}, {Code: []byte{22, 0, 14, 0}}, {Lits: []api.Val{{}}, Code: ret()}, {Lits: []api.Val{val(5, 6)}, Code: ret()}, {Lits: []api.Val{val(6, 6)}, Code: ret()}, {Lits: []api.Val{val(7, 5)}, Code: ret()}, {Code: []byte{0, 0, 14, 0}}}
	fine := []api.Method{{Lits: []api.Val{val(5, 5), val(6, 5), val(7, 4), val(3, 0)}, Code: ret()}}
	for at := range 5 {
		for _, m := range slices.Concat(long, form, fine) {
			u := program()
			m.Args = max(m.Args, u.Methods[at].Args)
			u.Methods[at] = m
			right(t, "a method", u, code.Right(m, u))
		}
		for other := range 5 {
			if other == at {
				continue
			}
			u := program()
			u.Methods[at], u.Methods[other] = long[0], form[0]
			want := api.ErrLong
			if other < at {
				want = api.ErrForm
			}
			right(t, "two wrong methods, of which the first one is told", u, want)
		}
	}
	u := program()
	u.Methods = roomy(u.Methods, api.Method{Args: 9}, api.Method{})
	right(t, "wrong methods in the room behind the length", u, api.OK)
}

// Each name with each method, in each class.
func TestRightOfArgs(t *testing.T) {
	all := []string{"a", "a:", "a:b:", "a:b:c:", "::", "+", "<=", "A1", "b:1:"}
	all[4] = "z:::::::"
	args := []int{0, 1, 2, 3, 7, 1, 1, 0, 2}
	for class := range 6 {
		for sel, has := range args {
			for takes := range 9 {
				u := program()
				for i := range u.Classes {
					u.Classes[i].Binds = nil
				}
				u.Names = all
				u.Methods[2].Lits[0].N, u.Methods[1].Lits[1].N = 0, 0
				u.Methods = append(u.Methods, api.Method{Args: takes, Code: ret()})
				u.Classes[class].Binds = []api.Bind{{Sel: 0, Method: 0}, {Sel: sel, Method: 5}}[btoi(sel == 0):]
				right(t, "a method of so many arguments", u, fits(has == takes, api.ErrMethod))
				u.Classes[class].Binds = roomy(u.Classes[class].Binds[:0], u.Classes[class].Binds...)
				right(t, "a bind in the room", u, api.OK)
			}
		}
	}
	u := program()
	u.Names[5] = "a" + strings.Repeat(":", 15)
	right(t, "a name of fifteen arguments that nothing binds", u, api.OK)
	u.Classes[5].Binds = []api.Bind{{Sel: 5, Method: 0}}
	right(t, "a name of fifteen arguments", u, api.ErrMethod)
	u = program()
	u.Methods[0].Temps = 1
	right(t, "temporaries are no arguments", u, api.OK)
}

func btoi(b bool) int {
	if b {
		return 1
	}
	return 0
}

// objects tells t where o, at each place of a program, is not judged so.
func objects(t *testing.T, what string, o api.Obj, ok bool) {
	t.Helper()
	for at := range 6 {
		u := program()
		u.Objects[at] = o
		right(t, what, u, fits(ok, api.ErrObject))
	}
	u := program()
	u.Objects = roomy(u.Objects, o)
	right(t, what+", in the room", u, api.OK)
}

func TestRightOfObjectsClass(t *testing.T) {
	has := []int{4, 62, 2, 3, 5, 0}
	for class := -2; class < 8; class++ {
		for n := range 70 {
			ok := class > 0 && class < 6 && (n == has[max(class, 0)] || class == 1 && n <= 62)
			objects(t, "class "+strconv.Itoa(class)+", fields "+strconv.Itoa(n), api.Obj{Class: class, Fields: make([]api.Val, n)}, ok)
		}
	}
	for _, class := range wild {
		for n := range 6 {
			objects(t, "a wild class", api.Obj{Class: class, Fields: make([]api.Val, n)}, false)
		}
	}
	objects(t, "very many fields", api.Obj{Class: 1, Fields: make([]api.Val, 1<<18)}, false)
	objects(t, "fields in the room", api.Obj{Class: 2, Fields: make([]api.Val, 2, 80)}, true)
	objects(t, "fields in the room alone", api.Obj{Class: 2, Fields: make([]api.Val, 1, 80)}, false)
	objects(t, "an array's fields in the room", api.Obj{Class: 1, Fields: make([]api.Val, 62, 80)}, true)
	for n := range 63 {
		u := program()
		u.Classes[5].Fields = n
		u.Objects[4].Fields = make([]api.Val, n)
		right(t, "a class of so many fields", u, api.OK)
		u.Objects[4].Fields = make([]api.Val, n+1)
		right(t, "a class of so many fields, and an object of one more", u, api.ErrObject)
		u.Objects[4].Fields = u.Objects[4].Fields[:max(0, n-1)]
		right(t, "a class of so many fields, and an object of one less", u, fits(n == 0, api.ErrObject))
	}
}

// fields tells t where v, at each place of objects of some classes, is not judged so.
func fields(t *testing.T, v api.Val, ok bool) {
	t.Helper()
	what := "a field " + strconv.Itoa(v.Kind) + ", " + strconv.Itoa(v.N)
	for class, many := range map[int]int{1: 9, 2: 2, 3: 3, 4: 5} {
		for at := range many {
			o := api.Obj{Class: class, Fields: make([]api.Val, many)}
			o.Fields[at] = v
			u := program()
			u.Objects[class] = o
			right(t, what, u, fits(ok, api.ErrObject))
		}
		objects(t, what+" in the room", api.Obj{Class: class, Fields: roomy(make([]api.Val, many), v)}, true)
	}
}

func TestRightOfFields(t *testing.T) {
	ns := append([]int{0, 1, 2, 4, 5, 6, 7, 39, 40, 1<<30 - 1, 1 << 30, 1<<30 + 1, -1 << 30, -1<<30 - 1, 1 - 1<<30, 3 << 30}, wild...)
	for _, n := range ns {
		fields(t, val(0, n), n == 0)
		fields(t, val(1, n), n == 0)
		fields(t, val(2, n), n == 0)
		fields(t, val(3, n), n >= -1<<30 && n < 1<<30)
		fields(t, val(4, n), n >= 0 && n < 6)
		for _, kind := range append([]int{5, 6, 7, 8, 9, 16}, wild...) {
			fields(t, val(kind, n), false)
		}
	}
	for many := 1; many <= 40; many++ {
		u := program()
		for len(u.Objects) < many {
			u.Objects = append(u.Objects, api.Obj{Class: 1})
		}
		u.Objects = u.Objects[:many]
		for i := range u.Objects {
			u.Objects[i] = api.Obj{Class: 1}
		}
		for n := range 45 {
			u.Objects[many-1].Fields = []api.Val{val(4, n)}
			right(t, "one of so many objects", u, fits(n < many, api.ErrObject))
		}
	}
}

func TestRightOfMain(t *testing.T) {
	for _, main := range append([]int{0, 1, 2, 3, 4, 5, 6, 31, 32, 33}, wild...) {
		u := program()
		u.Main = main
		right(t, "Main", u, fits(main == 0 || main == 3, api.ErrMethod))
		u.Methods = roomy(u.Methods, api.Method{Code: ret()})
		right(t, "Main, and a method in the room", u, fits(main == 0 || main == 3, api.ErrMethod))
	}
	for many := 1; many <= 32; many++ {
		u := program()
		for i := range u.Classes {
			u.Classes[i].Binds = nil
		}
		u.Methods = make([]api.Method, many)
		for i := range u.Methods {
			u.Methods[i] = api.Method{Args: i % 3, Temps: i % 2, Code: ret()}
		}
		for main := -1; main < 34; main++ {
			u.Main = main
			right(t, "Main of so many methods", u, fits(main >= 0 && main < many && main%3 == 0, api.ErrMethod))
		}
	}
}

// faults are, in the order of the refusals, what makes a program wrong; each leaves what the others do to be done.
func faults() []struct {
	why  api.Errno
	does func(u *api.Unit)
} {
	return []struct {
		why  api.Errno
		does func(u *api.Unit)
	}{
		{api.ErrLong, func(u *api.Unit) { u.Names = append(u.Names, names(50)...) }},
		{api.ErrLong, func(u *api.Unit) { u.Methods = append(u.Methods, slices.Repeat([]api.Method{{Code: ret()}}, 32)...) }},
		{api.ErrLong, func(u *api.Unit) { u.Objects = append(u.Objects, make([]api.Obj, 40)...) }},
		{api.ErrName, func(u *api.Unit) { u.Names = append(u.Names, "n m") }},
		{api.ErrName, func(u *api.Unit) { u.Names = append(u.Names, "twice", "twice") }},
		{api.ErrClass, func(u *api.Unit) { u.Classes[0].Fields = 5 }},
		{api.ErrName, func(u *api.Unit) { u.Classes[3].Name = "Pair" }},
		{api.ErrMethod, func(u *api.Unit) {
			u.Classes[4].Binds = append(u.Classes[4].Binds, api.Bind{Sel: 0, Method: -1})
		}},
		{api.ErrClass, func(u *api.Unit) {
			u.Names = append(u.Names, names(11)...)
			u.Classes[1].Binds = nil
			for _, sel := range []int{7, 14, 5, 0, 16} {
				u.Classes[1].Binds = append(u.Classes[1].Binds, api.Bind{Sel: sel})
			}
		}},
		{api.ErrLong, func(u *api.Unit) { u.Methods[1].Temps = 8 }},
		{api.ErrForm, func(u *api.Unit) { u.Methods[4].Code = nil }},
		{api.ErrMethod, func(u *api.Unit) { u.Classes[5].Binds = []api.Bind{{Sel: 1, Method: 0}} }},
		{api.ErrObject, func(u *api.Unit) { u.Objects[0].Class = 0 }},
		{api.ErrMethod, func(u *api.Unit) { u.Main = 1 }},
	}
}

func TestRightOrder(t *testing.T) {
	l := faults()
	for i := range l {
		u := program()
		l[i].does(&u)
		right(t, "fault "+strconv.Itoa(i), u, l[i].why)
		for j := range i {
			for _, both := range [][2]int{{i, j}, {j, i}} {
				u := program()
				l[both[0]].does(&u)
				l[both[1]].does(&u)
				right(t, "faults "+strconv.Itoa(j)+" and "+strconv.Itoa(i), u, l[j].why)
			}
		}
	}
	for i := range l {
		u := program()
		for j := len(l) - 1; j >= i; j-- {
			l[j].does(&u)
		}
		right(t, "all faults from "+strconv.Itoa(i), u, l[i].why)
	}
}

// plainRight is the chapter's order said once more; what the layers above judge is theirs.
func plainRight(u api.Unit) api.Errno {
	if len(u.Names) > 48 || len(u.Methods) > 32 || len(u.Objects) > 40 || len(u.Methods)*len(u.Objects) == 0 {
		return api.ErrLong
	}
	times := map[string]int{}
	for _, s := range u.Names {
		times[s]++
		if times[s] > 1 || args(s) < 0 {
			return api.ErrName
		}
	}
	if why := shape.Right(u.Classes, len(u.Names), len(u.Methods)); why != api.OK {
		return why
	}
	for _, c := range u.Classes {
		var sels []int
		for _, b := range c.Binds {
			sels = append(sels, b.Sel)
		}
		if !goesIn(sels) {
			return api.ErrClass
		}
	}
	for _, m := range u.Methods {
		if why := code.Right(m, u); why != api.OK {
			return why
		}
	}
	for _, c := range u.Classes {
		for _, b := range c.Binds {
			if u.Methods[b.Method].Args != args(u.Names[b.Sel]) {
				return api.ErrMethod
			}
		}
	}
	ok := true
	for _, o := range u.Objects {
		ok = ok && plainObject(o, u)
	}
	if !ok {
		return api.ErrObject
	}
	return fits(u.Main >= 0 && u.Main < len(u.Methods) && u.Methods[max(0, min(u.Main, len(u.Methods)-1))].Args == 0, api.ErrMethod)
}

// args tells how many arguments a name takes, of the few kinds of names that are drawn here; -1 of what is none.
func args(s string) int {
	switch {
	case s == "" || s[0] == ':' || len(s) > 16:
		return -1
	case s[0] == '+' || s[0] == '<':
		return 1
	}
	return strings.Count(s, ":")
}

func plainObject(o api.Obj, u api.Unit) bool {
	least := map[int]int{0: 0, 1: 0, 2: 0, 3: -1 << 30, 4: 0}
	behind := map[int]int{0: 1, 1: 1, 2: 1, 3: 1 << 30, 4: len(u.Objects)}
	for _, v := range o.Fields {
		if v.N < least[v.Kind] || v.N >= behind[v.Kind] {
			return false
		}
	}
	if o.Class < 2 || o.Class >= len(u.Classes) {
		return o.Class == 1 && len(o.Fields) < 63
	}
	return len(o.Fields) == u.Classes[o.Class].Fields
}

// drawn is a right program; of some binds go in, of some they do not.
func drawn(r *rand.Rand) api.Unit {
	u := api.Unit{Classes: []api.Class{{Name: "B", Super: -1, Fields: 4}, {Name: "A", Super: -1}}}
	for i := range r.Intn(49) {
		u.Names = append(u.Names, "n"+strconv.Itoa(i)+strings.Repeat(":", r.Intn(3)))
	}
	for range 1 + r.Intn(32) {
		u.Methods = append(u.Methods, api.Method{Args: r.Intn(3), Temps: r.Intn(3), Lits: []api.Val{val(3, r.Intn(9))}, Code: ret()})
	}
	u.Main = r.Intn(len(u.Methods))
	u.Methods[u.Main].Args = 0
	for i := range r.Intn(11) {
		c := api.Class{Name: "C" + strconv.Itoa(i), Super: r.Intn(min(i+3, 4)) - 1}
		c.Fields = r.Intn(8)
		if c.Super >= 0 {
			c.Fields += u.Classes[c.Super].Fields
		}
		u.Classes = append(u.Classes, c)
	}
	for i := range u.Classes {
		for _, sel := range r.Perm(len(u.Names))[:min(len(u.Names), r.Intn(9))] {
			takes := func(m api.Method) bool { return m.Args == args(u.Names[sel]) }
			if m := slices.IndexFunc(u.Methods, takes); m >= 0 {
				u.Classes[i].Binds = append(u.Classes[i].Binds, api.Bind{Sel: sel, Method: m})
			}
		}
	}
	many := 1 + r.Intn(40)
	for range many {
		o := api.Obj{Class: 1 + r.Intn(len(u.Classes)-1)}
		o.Fields = make([]api.Val, u.Classes[o.Class].Fields+btoi(o.Class == 1)*r.Intn(63))
		for i := range o.Fields {
			o.Fields[i] = []api.Val{{}, val(1, 0), val(2, 0), val(3, r.Intn(1<<31)-1<<30), val(4, r.Intn(many))}[r.Intn(5)]
		}
		u.Objects = append(u.Objects, o)
	}
	return u
}

// spoil changes a few things of u.
func spoil(r *rand.Rand, u *api.Unit) {
	for range 1 + r.Intn(3) {
		switch r.Intn(6) {
		case 0:
			l := textsOf(u)
			*l[r.Intn(len(l))] = []string{"", "B", "n0", "n1:", "a", "+", "::", strings.Repeat("m", 17)}[r.Intn(8)]
		case 1:
			u.Main += r.Intn(5) - 2
		case 2:
			o := &u.Objects[r.Intn(len(u.Objects))]
			o.Class += r.Intn(3) - 1
			if len(o.Fields) > 0 {
				o.Fields[r.Intn(len(o.Fields))] = val(r.Intn(6), r.Intn(60)-4)
			}
		case 3:
			m := &u.Methods[r.Intn(len(u.Methods))]
			m.Args += r.Intn(3) - 1
		default:
			l := numbersOf(u)
			*l[r.Intn(len(l))] += []int{1, -1, 2, 1 << 30, -1 << 62}[r.Intn(5)]
		}
	}
}

func TestRightDrawn(t *testing.T) {
	r := rand.New(rand.NewSource(154))
	told := map[api.Errno]int{}
	for range 6000 {
		u := drawn(r)
		want := plainRight(u)
		right(t, "drawn", u, want)
		if want != api.OK && want != api.ErrClass {
			t.Fatalf("what is drawn should be right: %d", want)
		}
		told[want]++
		spoil(r, &u)
		want = plainRight(u)
		right(t, "drawn, and spoiled", u, want)
		told[want]++
	}
	for _, e := range []api.Errno{api.OK, api.ErrLong, api.ErrForm, api.ErrName, api.ErrClass, api.ErrMethod, api.ErrObject} {
		if told[e] < 60 {
			t.Errorf("drawn too seldom: %d: %d", e, told[e])
		}
	}
}
