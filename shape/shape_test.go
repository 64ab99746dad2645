package shape_test

import (
	"math"
	"math/rand"
	"slices"
	"strings"
	"testing"

	"treadwheel/api"
	"treadwheel/shape"
)

// wrong are numbers that are no class of any row here.
var wrong = []int{math.MinInt, math.MinInt + 1, -1 << 32, 1 - 1<<32, -100, -2, -1, 20, 100, 1 << 31, 1 << 32, 1<<32 + 1, 1 << 62, math.MaxInt}

// supers are classes with these supers and nothing else.
func supers(l ...int) []api.Class {
	out := make([]api.Class, len(l))
	for i, s := range l {
		out[i].Super = s
	}
	return out
}

// chains tells t where Chain, Depth and Is of i are not those wanted.
func chains(t *testing.T, what string, l []api.Class, i int, want []int) {
	t.Helper()
	got := shape.Chain(l, i)
	if !slices.Equal(got, want) {
		t.Errorf("P10.1: %s: Chain(%d): %v, not %v", what, i, got, want)
	}
	if depth := shape.Depth(l, i); depth != len(want) {
		t.Errorf("P10.1: %s: Depth(%d): %d, not %d", what, i, depth, len(want))
	}
	for super := -3; super < len(l)+3; super++ {
		if is := shape.Is(l, i, super); is != slices.Contains(want, super) {
			t.Errorf("P10.1: %s: Is(%d, %d): %v", what, i, super, is)
		}
	}
	for _, super := range wrong {
		if shape.Is(l, i, super) {
			t.Errorf("P10.1: %s: Is(%d, %d), which is no class", what, i, super)
		}
	}
}

func TestChain(t *testing.T) {
	tree := supers(-1, -1, -1, 2, 3, 3, 1, 4, 0)
	for i, want := range [][]int{{0}, {1}, {2}, {3, 2}, {4, 3, 2}, {5, 3, 2}, {6, 1}, {7, 4, 3, 2}, {8, 0}} {
		chains(t, "a tree", tree, i, want)
	}
	deep := supers(-1, 0, 1, 2, 3, 4, 5, 6)
	for i := range deep {
		want := []int{}
		for k := i; k >= 0; k-- {
			want = append(want, k)
		}
		chains(t, "as deep as may be", deep, i, want)
	}
}

func TestChainOfNone(t *testing.T) {
	for _, l := range [][]api.Class{nil, {}, supers(-1), supers(-1, 0, 1)} {
		for _, i := range append([]int{len(l), len(l) + 1}, wrong...) {
			chains(t, "no class", l, i, nil)
		}
	}
	chains(t, "no classes", nil, 0, nil)
	chains(t, "room behind the length", supers(-1, 0, 1)[:1], 1, nil)
	chains(t, "a super in the room behind the length", supers(1, 0)[:1], 0, []int{0})
}

// Classes that are not Right have chains too: these end.
func TestChainOfWrong(t *testing.T) {
	for _, c := range []struct {
		what string
		l    []api.Class
		i    int
		want []int
	}{
		{"its own super", supers(0), 0, []int{0, 0, 0, 0, 0, 0, 0, 0}},
		{"two in a round", supers(1, 0), 1, []int{1, 0, 1, 0, 1, 0, 1, 0}},
		{"into a round", supers(-1, 2, 3, 1, 1), 4, []int{4, 1, 2, 3, 1, 2, 3, 1}},
		{"a super behind it", supers(2, -1, 1), 0, []int{0, 2, 1}},
		{"too deep by one", supers(-1, 0, 1, 2, 3, 4, 5, 6, 7), 8, []int{8, 7, 6, 5, 4, 3, 2, 1}},
		{"too deep by two", supers(-1, 0, 1, 2, 3, 4, 5, 6, 7, 8), 9, []int{9, 8, 7, 6, 5, 4, 3, 2}},
		{"a super one behind the last", supers(-1, 2), 1, []int{1}},
		{"the last", supers(-1, 0, 1, 2, 3, 4, 5, 6, 7, 8, 9, 10, 11, 12, 13), 14, []int{14, 13, 12, 11, 10, 9, 8, 7}},
	} {
		chains(t, c.what, c.l, c.i, c.want)
	}
	for _, super := range wrong {
		chains(t, "a super that is none", supers(super, 0), 1, []int{1, 0})
		chains(t, "a super that is none", supers(super, 0), 0, []int{0})
	}
}

// plainChain is Chain said once more, from its end.
func plainChain(l []api.Class, i, left int) []int {
	if left == 0 || i < 0 || i >= len(l) {
		return nil
	}
	return append([]int{i}, plainChain(l, l[i].Super, left-1)...)
}

func TestChainDrawn(t *testing.T) {
	r := rand.New(rand.NewSource(10))
	for range 3000 {
		l := make([]api.Class, r.Intn(15))
		for i := range l {
			l[i].Super = r.Intn(len(l)+3) - 2
		}
		for i := -2; i < len(l)+2; i++ {
			chains(t, "drawn", l, i, plainChain(l, i, 8))
		}
	}
}

const (
	names   = 20 // that the classes of good may bind
	methods = 30
)

// good are as many classes as may be, that are right; 3 to 10 are as deep as may be.
func good() []api.Class {
	return []api.Class{
		{Name: "Block", Super: -1, Fields: 4},
		{Name: "Array", Super: -1, Fields: 0, Binds: []api.Bind{{Sel: 3, Method: 3}}},
		{Name: "Leaf", Super: -1, Fields: 62, Binds: binds(16)},
		{Name: "a", Super: -1, Fields: 0},
		{Name: "a name of 16 byt", Super: 3, Fields: 0},
		{Name: "\x00", Super: 4, Fields: 3, Binds: []api.Bind{{Sel: 19, Method: 29}, {Sel: 0, Method: 0}}},
		{Name: "\xff ü", Super: 5, Fields: 3, Binds: []api.Bind{{Sel: 0, Method: 29}}},
		{Name: "A", Super: 6, Fields: 4},
		{Name: "block", Super: 7, Fields: 61},
		{Name: "Bloc", Super: 8, Fields: 62},
		{Name: "Block ", Super: 9, Fields: 62},
		{Name: "eighth", Super: 0, Fields: 4},
	}
}

// binds are n Binds of as many names.
func binds(n int) []api.Bind {
	out := make([]api.Bind, n)
	for i := range out {
		out[i] = api.Bind{Sel: n - 1 - i, Method: i % 3}
	}
	return out
}

// right tells t where Right is not the one wanted, or changes what it is given.
func right(t *testing.T, what string, l []api.Class, names, methods int, want api.Errno) {
	t.Helper()
	was := clone(l)
	if got := shape.Right(l, names, methods); got != want {
		t.Errorf("P10.1: %s: Right: %d, not %d", what, got, want)
	}
	if !same(l, was) {
		t.Errorf("R2: %s: Right changed what it was given", what)
	}
}

func clone(l []api.Class) []api.Class {
	out := slices.Clone(l)
	for i := range out {
		out[i].Binds = slices.Clone(out[i].Binds)
	}
	return out
}

func same(a, b []api.Class) bool {
	return slices.EqualFunc(a, b, func(x, y api.Class) bool {
		return x.Name == y.Name && x.Super == y.Super && x.Fields == y.Fields && slices.Equal(x.Binds, y.Binds)
	})
}

func TestRightOfMany(t *testing.T) {
	for n := 2; n <= api.MaxClass; n++ {
		right(t, "right ones", good()[:n], names, methods, api.OK)
	}
	right(t, "room behind the length", good()[:2:3], names, methods, api.OK)
	more := append(good(), api.Class{Name: "more", Super: -1})
	for _, l := range [][]api.Class{nil, {}, good()[:1], more, append(more, more...), make([]api.Class, 1), make([]api.Class, 13), make([]api.Class, 100000)} {
		right(t, "too few or too many", l, names, methods, api.ErrLong)
	}
	right(t, "the run", nil, 0, 0, api.ErrLong)
	right(t, "no names, no methods", []api.Class{{Name: "b", Super: -1, Fields: 4}, {Name: "c", Super: -1}}, 0, 0, api.OK)
}

// fault is a change of good that makes it wrong.
type fault struct {
	what  string
	class int // -1: it is judged ahead of all classes
	part  int // of what is judged of a class: 0 its name, 1 super and fields, 2 binds
	want  api.Errno
	do    func(l []api.Class)
}

// faults are one of each kind, or more, in each class that can have it.
func faults() []fault {
	var out []fault
	add := func(what string, class, part int, want api.Errno, do func(l []api.Class)) {
		out = append(out, fault{what, class, part, want, do})
	}
	for _, i := range []int{0, 1} {
		for _, super := range append([]int{0, 1, 2}, wrong...) {
			if super != -1 {
				add("a super of the first two", -1, 0, api.ErrClass, func(l []api.Class) { l[i].Super = super })
			}
		}
		for _, fields := range []int{math.MinInt, -1, 0, 1, 3, 4, 5, 62, 63, 1 << 32, 4 + 1<<32, math.MaxInt} {
			if fields != good()[i].Fields {
				add("fields of the first two", -1, 0, api.ErrClass, func(l []api.Class) { l[i].Fields = fields })
			}
		}
	}
	for i := range good() {
		for _, name := range []string{"", "a name of 17 byte", "ünicode of 17 by", strings.Repeat("x", 100000)} {
			add("a name's length", i, 0, api.ErrName, func(l []api.Class) { l[i].Name = name })
		}
		for k := range i {
			add("a name that is there", i, 0, api.ErrName, func(l []api.Class) { l[i].Name = l[k].Name })
		}
		for _, b := range []struct {
			what  string
			binds []api.Bind
		}{
			{"17 binds", binds(17)},
			{"many binds", make([]api.Bind, 100000)},
			{"a name that is none", []api.Bind{{Sel: 1, Method: 1}, {Sel: names, Method: 1}}},
			{"a name below", []api.Bind{{Sel: -1, Method: 1}}},
			{"the least name", []api.Bind{{Sel: math.MinInt, Method: 1}}},
			{"the greatest name", []api.Bind{{Sel: math.MaxInt, Method: 1}}},
			{"a wide name", []api.Bind{{Sel: 1 << 32, Method: 1}}},
			{"a method that is none", []api.Bind{{Sel: 1, Method: 1}, {Sel: 2, Method: methods}}},
			{"a method below", []api.Bind{{Sel: 1, Method: -1}}},
			{"the least method", []api.Bind{{Sel: 1, Method: math.MinInt}}},
			{"the greatest method", []api.Bind{{Sel: 1, Method: math.MaxInt}}},
			{"a wide method", []api.Bind{{Sel: 1, Method: 1 << 32}}},
			{"a name twice, one behind", []api.Bind{{Sel: 7, Method: 1}, {Sel: 7, Method: 1}}},
			{"a name twice, far behind", []api.Bind{{Sel: 7, Method: 1}, {Sel: 8, Method: 1}, {Sel: 9, Method: 1}, {Sel: 7, Method: 2}}},
			{"the last of 16 one of a name ahead", append(binds(16)[:15:15], api.Bind{Sel: 5})},
		} {
			add(b.what, i, 2, api.ErrMethod, func(l []api.Class) { l[i].Binds = b.binds })
		}
	}
	for i := 2; i < len(good()); i++ {
		for _, super := range append([]int{i, i + 1, 11, 12}, wrong...) {
			if super >= i || super < -1 {
				add("a super that is not ahead", i, 1, api.ErrClass, func(l []api.Class) { l[i].Super = super })
			}
		}
		for _, fields := range []int{math.MinInt, -1, 63, 1 << 32, math.MaxInt} {
			add("fields", i, 1, api.ErrClass, func(l []api.Class) { l[i].Fields = fields })
		}
		if f := good()[max(0, good()[i].Super)].Fields; good()[i].Super >= 0 {
			add("fewer fields than its super", i, 1, api.ErrClass, func(l []api.Class) { l[i].Fields = f - 1 })
		}
	}
	add("a super that is as deep as may be", 11, 1, api.ErrClass, func(l []api.Class) { l[11].Super, l[11].Fields = 10, 62 })
	return out
}

func TestRightOfOneFault(t *testing.T) {
	for _, f := range faults() {
		l := good()
		f.do(l)
		right(t, f.what, l, names, methods, f.want)
	}
}

// Of two faults the first one is told: ahead of all classes, then class by class, and of a class part by part.
func TestRightOfTwoFaults(t *testing.T) {
	all := faults()
	r := rand.New(rand.NewSource(101))
	for range 60000 {
		a, b := all[r.Intn(len(all))], all[r.Intn(len(all))]
		if a.class > b.class || a.class == b.class && a.part > b.part {
			a, b = b, a
		}
		if a.class == b.class && a.part == b.part {
			continue
		}
		l := good()
		b.do(l)
		a.do(l)
		right(t, a.what+", and "+b.what, l, names, methods, a.want)
		right(t, "too many, and "+a.what, append(l, l[2]), names, methods, api.ErrLong)
		right(t, "too few, and "+a.what, l[:1], names, methods, api.ErrLong)
	}
}

// The class behind may have each of a chain as its Super, but the one that is as deep as may be.
func TestRightOfDepth(t *testing.T) {
	for root := range 3 { // where the chain begins: at the blocks', at the arrays', at a class of its own
		l := append(good()[:2:2], api.Class{Name: "own", Super: -1, Fields: 4})
		last := root
		for depth := 2; depth <= 8; depth++ {
			l = append(l, api.Class{Name: "depth " + strings.Repeat("i", depth), Super: last, Fields: 4})
			last = len(l) - 1
			right(t, "a chain", l, names, methods, api.OK)
		}
		for super := range l {
			want := api.OK
			if super == last {
				want = api.ErrClass
			}
			right(t, "one behind a chain", append(l[:len(l):len(l)], api.Class{Name: "it", Super: super, Fields: 4}), names, methods, want)
		}
	}
}

func TestRightOfFields(t *testing.T) {
	for have := range 64 {
		for super := -1; super < 64; super++ {
			l := append(good()[:2:2], api.Class{Name: "super", Super: -1, Fields: super}, api.Class{Name: "it", Super: 2, Fields: have})
			want := api.OK
			if super < 0 || super > 62 || have > 62 || have < super {
				want = api.ErrClass
			}
			right(t, "fields of two", l, names, methods, want)
		}
	}
	for fields, want := range []api.Errno{api.ErrClass, api.ErrClass, api.ErrClass, api.ErrClass, api.OK, api.OK} {
		right(t, "fields of a kind of block", append(good()[:2:2], api.Class{Name: "it", Super: 0, Fields: fields}), names, methods, want)
		right(t, "fields of a kind of array", append(good()[:2:2], api.Class{Name: "it", Super: 1, Fields: fields}), names, methods, api.OK)
	}
}

func TestRightOfNamesAndMethods(t *testing.T) {
	for _, n := range []int{math.MinInt, -1, 0, 1, 2, 5, math.MaxInt} {
		for _, m := range []int{math.MinInt, -1, 0, 1, 3, 7, math.MaxInt} {
			right(t, "no binds", []api.Class{{Name: "b", Super: -1, Fields: 4}, {Name: "c", Super: -1}}, n, m, api.OK)
			for _, b := range []api.Bind{{Sel: 0, Method: 0}, {Sel: 1, Method: 2}, {Sel: 4, Method: 6}, {Sel: 5, Method: 1}, {Sel: 1, Method: 7}, {Sel: math.MaxInt - 1, Method: math.MaxInt - 1}, {Sel: math.MaxInt}, {Method: math.MaxInt}} {
				want := api.OK
				if b.Sel >= n || b.Method >= m {
					want = api.ErrMethod
				}
				for i := range 2 {
					l := []api.Class{{Name: "b", Super: -1, Fields: 4}, {Name: "c", Super: -1}}
					l[i].Binds = []api.Bind{b}
					right(t, "one bind", l, n, m, want)
				}
			}
		}
	}
	for n := range 20 {
		want := api.OK
		if n > 16 {
			want = api.ErrMethod
		}
		right(t, "so many binds", append(good()[:2:2], api.Class{Name: "it", Super: -1, Binds: binds(n)}), names, methods, want)
	}
}

// What two classes bind, or one and its super, is not held against each other.
func TestRightOfNamesBoundAgain(t *testing.T) {
	l := good()
	for i := range l {
		l[i].Binds = binds(16)
	}
	right(t, "all bind the same", l, names, methods, api.OK)
}

func TestAnswersAreNew(t *testing.T) {
	l := good()
	was := clone(l)
	a, b := shape.Chain(l, 10), shape.Chain(l, 10)
	for _, row := range [][]int{a[:cap(a)], a} {
		for i := range row {
			row[i] = -7
		}
	}
	if !slices.Equal(b, []int{10, 9, 8, 7, 6, 5, 4, 3}) || !slices.Equal(shape.Chain(l, 10), b) || !same(l, was) {
		t.Errorf("R2: Chain: %v, %v", b, shape.Chain(l, 10))
	}
}

func TestExamples(t *testing.T) {
	if d := shape.Depth(good(), 0); d != 1 {
		t.Errorf("P10.1: example 1: %d", d)
	}
	if c := shape.Chain(nil, 0); len(c) != 0 {
		t.Errorf("P10.1: example 2: %v", c)
	}
}
