package text_test

import (
	"fmt"
	"math"
	"math/rand"
	"reflect"
	"slices"
	"strings"
	"testing"

	"treadwheel/api"
	"treadwheel/text"
)

// wild are numbers that go into nothing.
var wild = []int{math.MinInt, math.MinInt + 1, -1 << 62, -1<<32 - 1, -1 << 32, 1 - 1<<32, -1<<31 - 1, -1 << 31, 1<<31 - 1, 1 << 31, 1<<31 + 1, 1<<32 - 1, 1 << 32, 1<<32 + 1, 1<<32 + 5, 1 << 62, math.MaxInt - 1, math.MaxInt, 999999999999, -999999999999}

// edges are those about the least and the greatest number of a literal, and of each number of digits.
var edges = []int{-1<<30 - 1, -1 << 30, 1 - 1<<30, -1000000000, -999999999, -256, -255, -129, -128, -127, -100, -99, -11, -10, -9, -8, -7, -6, -5, -4, -3, -2, -1, 0, 1, 2, 3, 4, 5, 6, 7, 8, 9, 10, 11, 99, 100, 101, 127, 128, 199, 200, 254, 255, 256, 257, 1000, 65535, 65536, 999999999, 1000000000, 1<<30 - 2, 1<<30 - 1, 1 << 30, 1<<30 + 1, 1999999999, 9999999999, 10000000000}

// opNames are the ops' by their numbers, as the chapter of code tells of them.
var opNames = []string{"pushtemp", "pushfield", "pushlit", "pushself", "pushnil", "pushtrue", "pushfalse", "pushnum", "pop", "dup", "storetemp", "storefield", "send", "super", "return", "jump", "back", "iffalse", "block", "home", "new", "prim"}

// words are the kinds' of literals.
var words = map[int]string{3: "num", 5: "sel", 6: "cls", 7: "blk"}

func val(kind, n int) api.Val { return api.Val{Kind: kind, N: n} }

// plainLit is what Lit should answer.
func plainLit(v api.Val) string {
	if words[v.Kind] == "" {
		return ""
	}
	return fmt.Sprintf("%s %d", words[v.Kind], v.N)
}

// plainPrint is what Print should answer.
func plainPrint(m api.Method) string {
	l := []string{fmt.Sprintf("method %d %d", m.Args, m.Temps)}
	for _, v := range m.Lits {
		l = append(l, "lit "+plainLit(v))
	}
	b := m.Code
	for ; len(b) > 1; b = b[2:] {
		switch {
		case b[0] == 7:
			l = append(l, fmt.Sprintf("  pushnum %d", int8(b[1])))
		case b[0] < 22:
			l = append(l, fmt.Sprintf("  %s %d", opNames[b[0]], b[1]))
		default:
			l = append(l, fmt.Sprintf("  op%d %d", b[0], b[1]))
		}
	}
	if len(b) == 1 {
		l = append(l, fmt.Sprintf("byte %d", b[0]))
	}
	return strings.Join(l, "\n") + "\n"
}

// same tells whether two methods are, nil and empty lists too.
func same(a, b api.Method) bool {
	return a.Args == b.Args && a.Temps == b.Temps && slices.Equal(a.Lits, b.Lits) && slices.Equal(a.Code, b.Code)
}

// prints tells t where Print of m is not what it should be, or changes m.
func prints(t *testing.T, what string, m api.Method) {
	t.Helper()
	lits, bytes := slices.Clone(m.Lits[:cap(m.Lits)]), slices.Clone(m.Code[:cap(m.Code)])
	if got, want := text.Print(m), plainPrint(m); got != want {
		t.Errorf("P17.1: %s: Print(%v): %q, not %q", what, m, got, want)
	}
	if !slices.Equal(lits, m.Lits[:cap(m.Lits)]) || !slices.Equal(bytes, m.Code[:cap(m.Code)]) {
		t.Errorf("R2: %s: Print changed what it was given", what)
	}
}

func TestRun(t *testing.T) {
	if s := text.Lit(val(api.Num, 5)); s != "num 5" {
		t.Errorf("P17.1: the run: %q", s)
	}
}

func TestExamples(t *testing.T) {
	if m, line := text.Parse(""); !reflect.DeepEqual(m, api.Method{}) || line != 1 {
		t.Errorf("P17.1: example 1: %v, %d", m, line)
	}
	if v, ok := text.Value("num 05"); v != (api.Val{}) || ok {
		t.Errorf("P17.1: example 2: %v, %v", v, ok)
	}
}

func TestLit(t *testing.T) {
	for _, n := range append(wild, edges...) {
		for kind := -12; kind < 30; kind++ {
			if got, want := text.Lit(val(kind, n)), plainLit(val(kind, n)); got != want {
				t.Errorf("P17.1: Lit of kind %d, %d: %q, not %q", kind, n, got, want)
			}
		}
		for _, kind := range wild {
			if got := text.Lit(val(kind, n)); got != "" {
				t.Errorf("P17.1: Lit of kind %d, %d: %q", kind, n, got)
			}
		}
	}
	for v, want := range map[api.Val]string{{Kind: api.Num, N: -7}: "num -7", {Kind: api.Sel, N: 47}: "sel 47", {Kind: api.Cls}: "cls 0", {Kind: api.Blk, N: 31}: "blk 31", {Kind: api.Num, N: math.MinInt}: "num -9223372036854775808", {Kind: api.Sel, N: -1}: "sel -1", {}: "", {Kind: api.True}: "", {Kind: api.False}: "", {Kind: api.Ref, N: 3}: "", {Kind: api.Blk + 1, N: 3}: ""} {
		if got := text.Lit(v); got != want {
			t.Errorf("P17.1: Lit(%v): %q, not %q", v, got, want)
		}
	}
}

func TestPrint(t *testing.T) {
	for _, c := range []struct {
		m    api.Method
		want string
	}{
		{api.Method{}, "method 0 0\n"},
		{api.Method{Lits: []api.Val{}, Code: []byte{}}, "method 0 0\n"},
		{api.Method{Code: []byte{14, 0}}, "method 0 0\n  return 0\n"},
		{api.Method{Args: 1, Temps: 2, Lits: []api.Val{val(3, -5), val(5, 1), val(6, 2), val(7, 3)}, Code: []byte{0, 2, 7, 255, 7, 128, 7, 127, 21, 0, 14, 255}},
			"method 1 2\nlit num -5\nlit sel 1\nlit cls 2\nlit blk 3\n  pushtemp 2\n  pushnum -1\n  pushnum -128\n  pushnum 127\n  prim 0\n  return 255\n"},
		{api.Method{Code: []byte{17, 3, 22, 3, 255, 0, 9}}, "method 0 0\n  iffalse 3\n  op22 3\n  op255 0\nbyte 9\n"},
		{api.Method{Code: []byte{7}}, "method 0 0\nbyte 7\n"},
		{api.Method{Code: []byte{255}}, "method 0 0\nbyte 255\n"},
		{api.Method{Lits: []api.Val{val(3, 1)}, Code: []byte{0}}, "method 0 0\nlit num 1\nbyte 0\n"},
		{api.Method{Args: 255, Temps: 256}, "method 255 256\n"},
		{api.Method{Args: -1, Temps: math.MinInt}, "method -1 -9223372036854775808\n"},
		{api.Method{Lits: []api.Val{{}, val(4, 1), val(8, 1), val(3, 1<<40)}}, "method 0 0\nlit \nlit \nlit \nlit num 1099511627776\n"},
	} {
		if got := text.Print(c.m); got != c.want {
			t.Errorf("P17.1: Print(%v): %q, not %q", c.m, got, c.want)
		}
		prints(t, "by hand", c.m)
	}
}

func TestPrintOfEachInstruction(t *testing.T) {
	for op := range 256 {
		for arg := range 256 {
			prints(t, "one", api.Method{Code: []byte{byte(op), byte(arg)}})
			prints(t, "between others", api.Method{Code: []byte{7, 200, byte(op), byte(arg), 30, 1}})
		}
		prints(t, "a byte alone", api.Method{Code: []byte{byte(op)}})
		prints(t, "a byte alone", api.Method{Code: []byte{7, 7, byte(op)}})
	}
}

func TestPrintOfEachNumber(t *testing.T) {
	for _, n := range append(wild, edges...) {
		prints(t, "so many arguments", api.Method{Args: n, Temps: 3})
		prints(t, "so many temporaries", api.Method{Args: 4, Temps: n})
		for kind := -1; kind < 10; kind++ {
			prints(t, "a literal", api.Method{Lits: []api.Val{val(kind, n), val(3, 1), val(kind, n)}, Code: []byte{1, 2}})
		}
	}
}

// drawn is any method, right or wrong, whose numbers go into lines.
func drawn(r *rand.Rand) api.Method {
	m := api.Method{Args: r.Intn(256), Temps: r.Intn(256), Code: make([]byte, r.Intn(40))}
	r.Read(m.Code)
	for i := range m.Code {
		if r.Intn(2) == 0 {
			m.Code[i] %= 24
		}
	}
	for range r.Intn(6) {
		m.Lits = append(m.Lits, val([]int{3, 5, 6, 7}[r.Intn(4)], (r.Intn(1<<31)-1<<30)>>r.Intn(31)))
	}
	return m
}

func TestPrintDrawn(t *testing.T) {
	r := rand.New(rand.NewSource(171))
	for range 3000 {
		m := drawn(r)
		prints(t, "drawn", m)
		prints(t, "spare room", api.Method{Args: m.Args, Lits: m.Lits[:len(m.Lits)/2], Code: m.Code[:len(m.Code)/2]})
	}
	long := api.Method{Lits: make([]api.Val, 5000), Code: make([]byte, 20001)}
	for i := range long.Lits {
		long.Lits[i] = val(3+i%5, i)
	}
	r.Read(long.Code)
	prints(t, "a long one", long)
}

func TestBack(t *testing.T) {
	r := rand.New(rand.NewSource(172))
	for range 5000 {
		m := drawn(r)
		if got, line := text.Parse(text.Print(m)); !same(got, m) || line != 0 {
			t.Errorf("P17.2: Parse(Print(%v)): %v, %d", m, got, line)
		}
	}
	for op := range 256 {
		for arg := range 256 {
			m := api.Method{Args: op, Temps: arg, Lits: []api.Val{val(3, -arg)}, Code: []byte{byte(op), byte(arg), byte(arg)}}
			if got, line := text.Parse(text.Print(m)); !same(got, m) || line != 0 {
				t.Errorf("P17.2: Parse(Print(%v)): %v, %d", m, got, line)
			}
		}
	}
	for _, n := range append(wild, edges...) {
		args, lits := n >= 0 && n <= 255, n >= -1<<30 && n <= 1<<30-1
		back(t, api.Method{Args: n}, args, 1)
		back(t, api.Method{Temps: n}, args, 1)
		for kind := -1; kind < 10; kind++ {
			m := api.Method{Lits: []api.Val{val(3, 1), val(kind, n)}, Code: []byte{14, 0}}
			back(t, m, lits && words[kind] != "", 3)
		}
	}
}

// back tells t where Parse(Print(m)) is not m, if its numbers go in, or that line.
func back(t *testing.T, m api.Method, in bool, line int) {
	t.Helper()
	want := m
	if in {
		line = 0
	} else {
		want = api.Method{}
	}
	if got, at := text.Parse(text.Print(m)); !same(got, want) || at != line {
		t.Errorf("P17.2: Parse(Print(%v)): %v, %d, not %v, %d", m, got, at, want, line)
	}
}
