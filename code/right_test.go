package code_test

import (
	"math"
	"math/rand"
	"slices"
	"testing"

	"treadwheel/api"
	"treadwheel/code"
)

// program has so many names, classes and methods, of which nothing else is asked here.
func program(names, classes, methods int) api.Unit {
	return api.Unit{Names: make([]string, names), Classes: make([]api.Class, classes), Methods: make([]api.Method, methods)}
}

func num(n int) api.Val { return api.Val{Kind: 3, N: n} }
func sel(n int) api.Val { return api.Val{Kind: 5, N: n} }
func cls(n int) api.Val { return api.Val{Kind: 6, N: n} }
func blk(n int) api.Val { return api.Val{Kind: 7, N: n} }

// ret is a method's code: these bytes, and a Return.
func ret(b ...byte) []byte { return append(slices.Clone(b), 14, 0) }

// right tells t where Right is not the one wanted, or changes what it is given.
func right(t *testing.T, what string, m api.Method, u api.Unit, want api.Errno) {
	t.Helper()
	lits, bytes := slices.Clone(m.Lits[:cap(m.Lits)]), slices.Clone(m.Code[:cap(m.Code)])
	if got := code.Right(m, u); got != want {
		t.Errorf("P14.2: %s: Right(%v): %d, not %d", what, m, got, want)
	}
	if !slices.Equal(lits, m.Lits[:cap(m.Lits)]) || !slices.Equal(bytes, m.Code[:cap(m.Code)]) {
		t.Errorf("R2: %s: Right changed what it was given", what)
	}
}

// fits is OK where ok holds, else the refusal.
func fits(ok bool, refusal api.Errno) api.Errno {
	if ok {
		return api.OK
	}
	return refusal
}

func TestRightOfLengths(t *testing.T) {
	u := program(0, 0, 0)
	for n := range 300 {
		b := make([]byte, n)
		for i := range b {
			b[i] = 14
		}
		want := fits(n >= 2 && n%2 == 0, api.ErrForm)
		if n > 128 {
			want = api.ErrLong
		}
		right(t, "so many bytes", api.Method{Code: b}, u, want)
	}
	for n := range 40 {
		lits := make([]api.Val, n)
		for i := range lits {
			lits[i] = num(i)
		}
		right(t, "so many literals", api.Method{Lits: lits, Code: ret()}, u, fits(n <= 16, api.ErrLong))
	}
	right(t, "very many bytes", api.Method{Code: make([]byte, 1<<20)}, u, api.ErrLong)
	right(t, "very many literals", api.Method{Lits: make([]api.Val, 1<<20), Code: ret()}, u, api.ErrLong)
	right(t, "nothing", api.Method{}, api.Unit{}, api.ErrForm)
	right(t, "empty lists", api.Method{Lits: []api.Val{}, Code: []byte{}}, u, api.ErrForm)
	right(t, "a Return and empty lists", api.Method{Lits: []api.Val{}, Code: ret()}, u, api.OK)
	right(t, "a Return and no lists", api.Method{Code: ret()}, api.Unit{}, api.OK)
}

func TestRightOfSlots(t *testing.T) {
	some := append([]int{0, 1, 2, 3, 4, 5, 6, 7, 8, 9, 10, 16}, wild...)
	for _, args := range some {
		for _, temps := range some {
			ok := args >= 0 && args <= 8 && temps >= 0 && temps <= 8 && args+temps <= 8
			right(t, "slots", api.Method{Args: args, Temps: temps, Code: ret()}, api.Unit{}, fits(ok, api.ErrLong))
		}
	}
}

// ErrLong is told ahead of every ErrForm.
func TestRightOfLongAndForm(t *testing.T) {
	u := program(1, 1, 1)
	long := []api.Method{
		{Code: make([]byte, 129)},
		{Code: make([]byte, 130)},
		{Lits: make([]api.Val, 17)},
		{Args: 9},
		{Temps: 9},
		{Args: 4, Temps: 5},
		{Args: -1},
		{Temps: -1},
		{Args: -1, Temps: 1},
		{Args: 1, Temps: -1},
		{Args: math.MinInt, Temps: math.MinInt},
		{Args: math.MaxInt, Temps: math.MaxInt},
	}
	for _, m := range long {
		right(t, "too great as it is", m, u, api.ErrLong)
		if m.Lits == nil {
			m.Lits = []api.Val{num(1 << 30), {}, sel(1), cls(-1)}
			right(t, "too great, and literals", m, u, api.ErrLong)
		}
		if m.Code == nil {
			for _, b := range [][]byte{nil, {14}, {14, 0, 14}, {8, 0}, ret(22, 0), ret(0, 200)} {
				m.Code = b
				right(t, "too great, and code", m, u, api.ErrLong)
			}
		}
	}
}

// The last instruction is one behind which none is done.
func TestRightOfLast(t *testing.T) {
	m := api.Method{Args: 1, Lits: []api.Val{num(0)}}
	for op := range 256 {
		for _, ahead := range [][]byte{nil, {14, 0}, {3, 0, 14, 0}, {16, 0, 14, 14}} {
			m.Code = append(slices.Clone(ahead), byte(op), 0)
			right(t, "a last op", m, api.Unit{}, fits(op == 14 || op == 16 || op == 19, api.ErrForm))
			m.Code = append(m.Code, 14)
			right(t, "half an instruction behind it", m, api.Unit{}, api.ErrForm)
		}
	}
	for _, op := range []byte{14, 16, 19} {
		m.Code = []byte{3, 0, op, 0, 8, 0}
		right(t, "room behind the length", m, api.Unit{}, api.ErrForm)
		m.Code = m.Code[:4]
		right(t, "a last op in the room behind the length", m, api.Unit{}, api.OK)
		m.Code = m.Code[:2]
		right(t, "a last op in the room behind the length", m, api.Unit{}, api.ErrForm)
	}
}

// literals tells t where v, at each place of a row of right ones, is not judged so.
func literals(t *testing.T, what string, v api.Val, u api.Unit, ok bool) {
	t.Helper()
	for _, n := range []int{1, 2, 16} {
		for at := range n {
			lits := make([]api.Val, n)
			for i := range lits {
				lits[i] = num(i)
			}
			lits[at] = v
			right(t, what, api.Method{Lits: lits, Code: ret()}, u, fits(ok, api.ErrForm))
		}
	}
	lits := []api.Val{num(0), v}
	right(t, what+", in the room behind the length", api.Method{Lits: lits[:1], Code: ret()}, u, api.OK)
}

func TestRightOfNumbers(t *testing.T) {
	for _, n := range append([]int{0, 1, 1 << 29, 1<<30 - 2, 1<<30 - 1, 1 << 30, 1<<30 + 1, -1 << 29, 1 - 1<<30, -1 << 30, -1<<30 - 1, 3 << 30, 1<<32 - 1, 1<<32 + 7, 1 << 63 >> 1}, wild...) {
		literals(t, "a number", num(n), program(3, 3, 3), n >= -1<<30 && n < 1<<30)
	}
}

func TestRightOfSelClsBlk(t *testing.T) {
	for _, many := range []int{0, 1, 2, 3, 12, 48} {
		for _, n := range append([]int{0, 1, 2, 3, 4, 11, 12, 13, 47, 48, 49}, wild...) {
			ok := n >= 0 && n < many
			for _, others := range []int{0, many, 60} {
				literals(t, "a name", sel(n), program(many, others, others), ok)
				literals(t, "a class", cls(n), program(others, many, others), ok)
				literals(t, "a method", blk(n), program(others, others, many), ok)
			}
		}
	}
	u := program(5, 5, 5)
	u.Names, u.Classes, u.Methods = u.Names[:2], u.Classes[:2], u.Methods[:2]
	literals(t, "a name behind the length", sel(2), u, false)
	literals(t, "a class behind the length", cls(2), u, false)
	literals(t, "a method behind the length", blk(2), u, false)
	u.Names = []string{"", ":a", "no name of its own", "at:", "at:"}
	for i := range u.Names {
		literals(t, "a name by its number alone", sel(i), u, true)
	}
}

func TestRightOfKinds(t *testing.T) {
	u := program(60, 60, 60)
	for _, kind := range append([]int{0, 1, 2, 3, 4, 5, 6, 7, 8, 9, 10}, wild...) {
		for _, n := range []int{0, 1, 5} {
			literals(t, "a kind", api.Val{Kind: kind, N: n}, u, kind == 3 || kind >= 5 && kind <= 7)
		}
	}
}

// mixed are literals of each kind, a few of each.
func mixed() []api.Val {
	return []api.Val{num(5), sel(0), cls(0), blk(0), cls(1), cls(2), num(-1 << 30), sel(2), blk(3), cls(3), num(0), num(1<<30 - 1)}
}

// plainOK is what the chapter says of one instruction, by tables: at is its place, long the code's length.
func plainOK(op, arg, at, long, slots int, lits []api.Val) bool {
	kinds := map[int]int{2: 3, 12: 5, 13: 5, 20: 6, 18: 7}
	most := map[int]int{0: slots, 10: slots, 1: 62, 11: 62, 21: 24}
	if op > 21 {
		return false
	}
	if kind, in := kinds[op]; in {
		if arg >= len(lits) || lits[arg].Kind != kind {
			return false
		}
		return op != 20 || lits[arg].N > 1
	}
	if n, in := most[op]; in {
		return arg < n
	}
	switch op {
	case 15, 17:
		return slices.Contains(places(long), at+2+2*arg)
	case 16:
		return slices.Contains(places(long), at-2*arg)
	}
	return true
}

// places are those of the instructions of a code of so many bytes.
func places(long int) []int {
	var out []int
	for i := 0; i < long; i += 2 {
		out = append(out, i)
	}
	return out
}

// Each op with each argument, at each place of codes of some lengths.
func TestRightOfEachInstruction(t *testing.T) {
	u := program(3, 4, 4)
	for _, long := range []int{2, 4, 8, 20, 128} {
		m := api.Method{Args: 2, Temps: 1, Lits: mixed(), Code: make([]byte, long)}
		for _, at := range places(long) {
			for i := range m.Code {
				m.Code[i] = byte(14 * (1 - i%2))
			}
			for op := range 256 {
				for arg := range 256 {
					m.Code[at], m.Code[at+1] = byte(op), byte(arg)
					ok := plainOK(op, arg, at, long, 3, m.Lits) && (at+2 < long || op == 14 || op == 16 || op == 19)
					if got := code.Right(m, u); got != fits(ok, api.ErrForm) {
						t.Fatalf("P14.2: %d, %d at %d of %d: %d", op, arg, at, long, got)
					}
				}
			}
		}
	}
}

// Temporaries are those of any arguments and temporaries, fields those of any class.
func TestRightOfTempsAndFields(t *testing.T) {
	for args := range 9 {
		for temps := range 9 - args {
			for arg := range 256 {
				for _, op := range []byte{0, 10} {
					m := api.Method{Args: args, Temps: temps, Code: ret(op, byte(arg))}
					right(t, "a temporary", m, api.Unit{}, fits(arg < args+temps, api.ErrForm))
				}
			}
		}
	}
	for arg := range 256 {
		for _, op := range []byte{1, 11} {
			right(t, "a field", api.Method{Code: ret(op, byte(arg))}, api.Unit{}, fits(arg < 62, api.ErrForm))
		}
	}
}

// Each op that takes a literal, with each one that is there, and those that are not.
func TestRightOfLiteralsTaken(t *testing.T) {
	u := program(3, 4, 4)
	for n := range mixed() {
		lits := mixed()[:n]
		for arg := range 256 {
			for op, kind := range map[byte]int{2: 3, 12: 5, 13: 5, 20: 6, 18: 7} {
				ok := arg < n && lits[arg].Kind == kind && (op != 20 || lits[arg].N > 1)
				right(t, "a literal", api.Method{Lits: lits, Code: ret(op, byte(arg))}, u, fits(ok, api.ErrForm))
			}
		}
	}
	all := make([]api.Val, 16)
	for i := range all {
		all[i] = cls(15 - i)
	}
	for i := range all {
		right(t, "classes to make", api.Method{Lits: all, Code: ret(20, byte(i))}, program(0, 16, 0), fits(15-i > 1, api.ErrForm))
	}
	right(t, "a method's own number", api.Method{Lits: []api.Val{blk(0)}, Code: ret(18, 0)}, program(0, 0, 1), api.OK)
}

// A jump may lead to the last instruction, and not behind it; one back to the first one, and not ahead of it.
func TestRightOfJumps(t *testing.T) {
	for _, long := range []int{2, 4, 6, 64, 126, 128} {
		for _, at := range places(long) {
			for arg := range 256 {
				b := slices.Repeat([]byte{14, 0}, long/2)
				b[at+1] = byte(arg)
				for _, op := range []byte{15, 17} {
					b[at] = op
					to := at + 2 + 2*arg
					right(t, "a jump", api.Method{Code: b}, api.Unit{}, fits(to <= long-2, api.ErrForm))
				}
				b[at] = 16
				right(t, "a jump back", api.Method{Code: b}, api.Unit{}, fits(at-2*arg >= 0, api.ErrForm))
			}
		}
	}
	right(t, "round and round", api.Method{Code: []byte{16, 0}}, api.Unit{}, api.OK)
	right(t, "into the room behind the length", api.Method{Code: []byte{15, 1, 14, 0, 14, 0}[:4]}, api.Unit{}, api.ErrForm)
}

// plainRight is Right said once more.
func plainRight(m api.Method, u api.Unit) api.Errno {
	if len(m.Code) > 128 || len(m.Lits) > 16 || m.Args < 0 || m.Temps < 0 || m.Args+m.Temps > 8 {
		return api.ErrLong
	}
	n := len(m.Code)
	ok := n > 1 && n%2 == 0 && slices.Contains([]byte{14, 16, 19}, m.Code[n-2])
	for _, v := range m.Lits {
		least, most := 0, map[int]int{5: len(u.Names), 6: len(u.Classes), 7: len(u.Methods)}[v.Kind]
		if v.Kind == 3 {
			least, most = -1<<30, 1<<30
		}
		ok = ok && v.N >= least && v.N < most
	}
	for _, at := range places(n - n%2) {
		ok = ok && plainOK(int(m.Code[at]), int(m.Code[at+1]), at, n, m.Args+m.Temps, m.Lits)
	}
	return fits(ok, api.ErrForm)
}

// drawn is a method that is often right, and often all but right.
func drawn(r *rand.Rand) api.Method {
	m := api.Method{Args: r.Intn(4), Temps: r.Intn(4), Lits: make([]api.Val, r.Intn(8))}
	for i := range m.Lits {
		m.Lits[i] = []api.Val{num(r.Intn(9) - 4), sel(r.Intn(3)), cls(r.Intn(4)), blk(r.Intn(4))}[r.Intn(4)]
	}
	long := 2 * (1 + r.Intn(6))
	for at := 0; at < long; at += 2 {
		op, arg := 0, 0
		for tries := 0; tries == 0 || tries < 2000 && !plainOK(op, arg, at, long, m.Args+m.Temps, m.Lits); tries++ {
			op, arg = r.Intn(22), r.Intn(8)
			if at == long-2 {
				op = []int{14, 16, 19}[r.Intn(3)]
			}
		}
		m.Code = append(m.Code, byte(op), byte(arg))
	}
	return m
}

// spoil changes one thing of m, or two.
func spoil(r *rand.Rand, m *api.Method) {
	for range 1 + r.Intn(2) {
		switch kind := r.Intn(6); {
		case kind == 0:
			m.Args += r.Intn(9) - 4
		case kind == 1:
			m.Temps += r.Intn(9) - 4
		case kind == 2 && len(m.Lits) > 0:
			m.Lits[r.Intn(len(m.Lits))] = api.Val{Kind: r.Intn(9), N: r.Intn(8) - 2}
		case kind == 3:
			m.Code = m.Code[:r.Intn(len(m.Code)+1)]
		case len(m.Code) > 0:
			m.Code[r.Intn(len(m.Code))] = byte(r.Intn(30))
		}
	}
}

func TestRightDrawn(t *testing.T) {
	r := rand.New(rand.NewSource(141))
	u := program(3, 4, 4)
	told := map[api.Errno]int{}
	for range 60000 {
		m := drawn(r)
		right(t, "drawn", m, u, api.OK)
		spoil(r, &m)
		want := plainRight(m, u)
		right(t, "drawn, and spoiled", m, u, want)
		told[want]++
	}
	for _, e := range []api.Errno{api.OK, api.ErrLong, api.ErrForm} {
		if told[e] < 1000 {
			t.Errorf("drawn too seldom: %d: %d", e, told[e])
		}
	}
}
