package code_test

import (
	"math"
	"math/rand"
	"slices"
	"testing"

	"treadwheel/api"
	"treadwheel/code"
)

// wild are numbers that are nothing's: no place, no op, no primitive, no literal's.
var wild = []int{math.MinInt, math.MinInt + 1, math.MinInt + 2, -1 << 62, -1 << 33, -1 << 32, 1 - 1<<32, -1 << 31, -1024, -512, -257, -256, -255, -129, -128, -22, -2, -1, 256, 257, 258, 277, 278, 300, 512, 1 << 16, 1 << 31, 1<<31 + 1, 1 << 32, 1<<32 + 1, 1<<32 + 2, 1 << 62, 1<<62 + 1, math.MaxInt - 1, math.MaxInt}

// Ops and primitives by their numbers, as the chapter tells of them.
var (
	opNames = []string{"pushtemp", "pushfield", "pushlit", "pushself", "pushnil", "pushtrue", "pushfalse", "pushnum", "pop", "dup", "storetemp", "storefield", "send", "super", "return", "jump", "back", "iffalse", "block", "home", "new", "prim"}
	taken   = []int{2, 2, 2, 2, 2, 2, 1, 1, 2, 3, 1, 1, 2, 2, 0, 1, 1, 0, 1, 3, 2, 0, 1, 0}
)

func TestName(t *testing.T) {
	for op := range 256 {
		want := ""
		if op < len(opNames) {
			want = opNames[op]
		}
		if got := code.Name(op); got != want {
			t.Errorf("P14.2: Name(%d): %q, not %q", op, got, want)
		}
	}
	for _, op := range wild {
		if got := code.Name(op); got != "" {
			t.Errorf("P14.2: Name(%d): %q", op, got)
		}
	}
}

func TestTakes(t *testing.T) {
	for prim := range 256 {
		want := -1
		if prim < len(taken) {
			want = taken[prim]
		}
		if got := code.Takes(prim); got != want {
			t.Errorf("P14.1: Takes(%d): %d, not %d", prim, got, want)
		}
	}
	for _, prim := range wild {
		if got := code.Takes(prim); got != -1 {
			t.Errorf("P14.1: Takes(%d): %d", prim, got)
		}
	}
	if got := code.Takes(api.Add); got != 2 {
		t.Errorf("P14.1: the run: %d", got)
	}
}

// fetches tells t where Fetch of b at pc is not what it should be.
func fetches(t *testing.T, what string, b []byte, pc int) {
	t.Helper()
	var want code.Inst
	in := false
	for i := 0; i+2 <= len(b); i += 2 {
		if i == pc {
			want, in = code.Inst{Op: int(b[i]), Arg: int(b[i+1])}, true
		}
	}
	if got, ok := code.Fetch(api.Method{Code: b}, pc); got != want || ok != in {
		t.Errorf("P14.1: %s: Fetch at %d of %d bytes: %v, %v, not %v, %v", what, pc, len(b), got, ok, want, in)
	}
}

func TestFetch(t *testing.T) {
	long := make([]byte, 1000)
	for i := range long {
		long[i] = byte(i*7 + 1)
	}
	for _, n := range []int{0, 1, 2, 3, 4, 5, 6, 7, 127, 128, 129, 130, 999, 1000} {
		for pc := -5; pc < n+5; pc++ {
			fetches(t, "a code", slices.Clone(long[:n]), pc)
			fetches(t, "room behind the length", long[:n], pc)
		}
		for _, pc := range wild {
			fetches(t, "a wild place", long[:n], pc)
		}
	}
	for _, pc := range append([]int{0, 1, 2}, wild...) {
		fetches(t, "no code", nil, pc)
		fetches(t, "no code", []byte{}, pc)
	}
}

// Fetch tells what is there, also of what is no op and of a method that is wrong in other ways.
func TestFetchOfEachByte(t *testing.T) {
	for op := range 256 {
		for arg := range 256 {
			m := api.Method{Args: -1, Temps: math.MaxInt, Code: []byte{14, 0, byte(op), byte(arg), 9}}
			if got, ok := code.Fetch(m, 2); got != (code.Inst{Op: op, Arg: arg}) || !ok {
				t.Errorf("P14.1: Fetch of %d, %d: %v, %v", op, arg, got, ok)
			}
		}
	}
}

func TestBytes(t *testing.T) {
	for _, c := range []struct {
		l    []code.Inst
		want []byte
	}{
		{nil, nil},
		{[]code.Inst{}, nil},
		{[]code.Inst{{}}, []byte{0, 0}},
		{[]code.Inst{{Op: 14, Arg: 3}}, []byte{14, 3}},
		{[]code.Inst{{Op: 7, Arg: -1}, {Op: 7, Arg: -128}, {Op: 7, Arg: 127}, {Op: 7, Arg: 128}}, []byte{7, 255, 7, 128, 7, 127, 7, 128}},
		{[]code.Inst{{Op: 256, Arg: 511}, {Op: -256, Arg: -257}, {Op: 255, Arg: 257}}, []byte{0, 255, 0, 255, 255, 1}},
		{[]code.Inst{{Op: 1 << 32, Arg: 1<<32 + 5}, {Op: math.MaxInt, Arg: math.MinInt}, {Op: math.MinInt + 3, Arg: math.MaxInt - 3}}, []byte{0, 5, 255, 0, 3, 252}},
		{[]code.Inst{{Op: 1, Arg: 2}, {Op: 3, Arg: 4}, {Op: 5, Arg: 6}}[:2], []byte{1, 2, 3, 4}},
	} {
		was := slices.Clone(c.l)
		if got := code.Bytes(c.l); !slices.Equal(got, c.want) {
			t.Errorf("P14.2: Bytes(%v): %v, not %v", c.l, got, c.want)
		}
		if !slices.Equal(c.l, was) {
			t.Errorf("R2: Bytes(%v) changed %v", was, c.l)
		}
	}
}

// What Bytes writes, Fetch tells.
func TestBytesFetched(t *testing.T) {
	r := rand.New(rand.NewSource(14))
	for n := range 300 {
		l := make([]code.Inst, n)
		for i := range l {
			l[i] = code.Inst{Op: r.Intn(256), Arg: r.Intn(256)}
		}
		m := api.Method{Code: code.Bytes(l)}
		if len(m.Code) != 2*n {
			t.Fatalf("P14.2: Bytes of %d: %d", n, len(m.Code))
		}
		for i := range l {
			if got, ok := code.Fetch(m, 2*i); got != l[i] || !ok {
				t.Errorf("P14.1: Fetch of Bytes at %d: %v, not %v", 2*i, got, l[i])
			}
		}
	}
}

func TestBytesAreNew(t *testing.T) {
	l := []code.Inst{{Op: 1, Arg: 2}, {Op: 3, Arg: 4}}
	a, b := code.Bytes(l), code.Bytes(l)
	for i := range a[:cap(a)] {
		a[:cap(a)][i] = 77
	}
	if want := []byte{1, 2, 3, 4}; !slices.Equal(b, want) || !slices.Equal(code.Bytes(l), want) {
		t.Errorf("R2: Bytes: %v, %v", b, code.Bytes(l))
	}
}

func TestExamples(t *testing.T) {
	if i, ok := code.Fetch(api.Method{Code: []byte{14, 0, 14, 0}}, 1); i != (code.Inst{}) || ok {
		t.Errorf("P14.1: example 1: %v, %v", i, ok)
	}
	if s := code.Name(22); s != "" {
		t.Errorf("P14.2: example 2: %q", s)
	}
}
