package text_test

import (
	"math/big"
	"math/rand"
	"reflect"
	"regexp"
	"slices"
	"strconv"
	"strings"
	"testing"

	"treadwheel/api"
	"treadwheel/text"
)

// Lines, as patterns that say nothing of how great numbers are.
var (
	litForm    = regexp.MustCompile(`\A(num|sel|cls|blk) (0|-?[1-9][0-9]*)\z`)
	methodForm = regexp.MustCompile(`\Amethod (0|[1-9][0-9]*) (0|[1-9][0-9]*)\z`)
	instForm   = regexp.MustCompile(`\A  ([a-z]+|op(?:0|[1-9][0-9]*)) (0|-?[1-9][0-9]*)\z`)
	byteForm   = regexp.MustCompile(`\Abyte (0|[1-9][0-9]*)\z`)
)

// within reads a number of any length, if it is one between least and most.
func within(s string, least, most int64) (int, bool) {
	n, ok := new(big.Int).SetString(s, 10)
	if !ok || n.Cmp(big.NewInt(least)) < 0 || n.Cmp(big.NewInt(most)) > 0 {
		return 0, false
	}
	return int(n.Int64()), true
}

// plainValue is what Value should answer.
func plainValue(s string) (api.Val, bool) {
	p := litForm.FindStringSubmatch(s)
	if p == nil {
		return api.Val{}, false
	}
	n, ok := within(p[2], -1<<30, 1<<30-1)
	if !ok {
		return api.Val{}, false
	}
	return val(map[string]int{"num": 3, "sel": 5, "cls": 6, "blk": 7}[p[1]], n), true
}

// plainInst is the bytes of a line; none of one that is no instruction's.
func plainInst(s string) []byte {
	p := instForm.FindStringSubmatch(s)
	if p == nil {
		return nil
	}
	op := slices.Index(opNames, p[1])
	if strings.HasPrefix(p[1], "op") {
		op, _ = within(p[1][2:], 22, 255)
	}
	least, most := int64(0), int64(255)
	if op == 7 {
		least, most = -128, 127
	}
	arg, ok := within(p[2], least, most)
	if op < 0 || !ok || op == 0 && p[1] != "pushtemp" {
		return nil
	}
	return []byte{byte(op), byte(arg)}
}

// plainParse is what Parse should answer.
func plainParse(s string) (api.Method, int) {
	l := strings.SplitAfter(s, "\n")
	if l[len(l)-1] == "" && len(l) > 1 {
		l = l[:len(l)-1]
	}
	var m api.Method
	part := 0
	for i, line := range l {
		bare, ended := strings.CutSuffix(line, "\n")
		if !ended {
			return api.Method{}, i + 1
		}
		p, inst, lone := methodForm.FindStringSubmatch(bare), plainInst(bare), byteForm.FindStringSubmatch(bare)
		v, isLit := plainValue(strings.TrimPrefix(bare, "lit "))
		args, temps, n, ok := 0, 0, 0, false
		if p != nil {
			args, ok = within(p[1], 0, 255)
			if ok {
				temps, ok = within(p[2], 0, 255)
			}
		}
		inByte := false
		if lone != nil {
			n, inByte = within(lone[1], 0, 255)
		}
		switch {
		case i == 0 && ok:
			m.Args, m.Temps = args, temps
		case i > 0 && part == 0 && isLit && strings.HasPrefix(bare, "lit "):
			m.Lits = append(m.Lits, v)
		case i > 0 && part < 2 && inst != nil:
			m.Code, part = append(m.Code, inst...), 1
		case i > 0 && part < 2 && inByte:
			m.Code, part = append(m.Code, byte(n)), 2
		default:
			return api.Method{}, i + 1
		}
	}
	return m, 0
}

// parses tells t where Parse of s is not what it should be.
func parses(t *testing.T, s string) {
	t.Helper()
	want, line := plainParse(s)
	got, at := text.Parse(s)
	if !same(got, want) || at != line {
		t.Errorf("P17.1: Parse(%q): %v, %d, not %v, %d", s, got, at, want, line)
	}
	if at != 0 && !reflect.DeepEqual(got, api.Method{}) {
		t.Errorf("R3: Parse(%q): %v beside %d", s, got, at)
	}
	if at == 0 && text.Print(got) != s {
		t.Errorf("P17.1: Print(Parse(%q)): %q", s, text.Print(got))
	}
}

func values(t *testing.T, s string) {
	t.Helper()
	want, in := plainValue(s)
	got, ok := text.Value(s)
	if got != want || ok != in {
		t.Errorf("P17.1: Value(%q): %v, %v, not %v, %v", s, got, ok, want, in)
	}
	if ok && text.Lit(got) != s {
		t.Errorf("P17.1: Lit(Value(%q)): %q", s, text.Lit(got))
	}
}

func TestValue(t *testing.T) {
	for s, want := range map[string]api.Val{"num 5": val(3, 5), "num 0": val(3, 0), "num -1": val(3, -1), "num -1073741824": val(3, -1<<30), "num 1073741823": val(3, 1<<30-1), "sel 7": val(5, 7), "cls 11": val(6, 11), "blk 31": val(7, 31), "sel -1073741824": val(5, -1<<30), "cls 1073741823": val(6, 1<<30-1), "blk -3": val(7, -3)} {
		if got, ok := text.Value(s); got != want || !ok {
			t.Errorf("P17.1: Value(%q): %v, %v, not %v", s, got, ok, want)
		}
	}
	for _, s := range []string{"", " ", "num", "num ", " num 5", "num  5", "num 5 ", "num 5\n", "num 5\x00", "num\t5", "num-5", "num5", "5", " 5", "Num 5", "NUM 5", "nul 5", "nu 5", "numb 5", "ref 5", "true 0", "nil 0", "op 5", "num 05", "num 00", "num -0", "num -05", "num --5", "num +5", "num - 5", "num 5-", "num -", "num 0x5", "num 1e3", "num 1_0", "num 5.0", "num 5 5", "num num 5", "num 1073741824", "num -1073741825", "num 4294967301", "num 18446744073709551621", "num 9999999999", "num 10000000000", "num -9999999999", "sel 1073741824", "cls -1073741825", "blk 99999999999999999999999999", "num \u0665", "num\u00a05", "num \uff15", "lit num 5", "num " + strings.Repeat("0", 5000), "num " + strings.Repeat("1", 5000), strings.Repeat(" ", 5000)} {
		if got, ok := text.Value(s); got != (api.Val{}) || ok {
			t.Errorf("P17.1: Value(%q): %v, %v", s, got, ok)
		}
		values(t, s)
	}
	for _, n := range append(wild, edges...) {
		for kind := -1; kind < 10; kind++ {
			s := text.Lit(val(kind, n))
			values(t, s)
			values(t, words[3]+s[min(3, len(s)):])
		}
	}
}

// Each text of up to five of these bytes behind a word, and each byte at each place of some texts.
func TestValueOfEachText(t *testing.T) {
	var each func(s string, n int)
	each = func(s string, n int) {
		values(t, s)
		if n == 0 {
			return
		}
		for _, c := range []byte("-+ 0179") {
			each(s+string(c), n-1)
		}
	}
	each("num", 6)
	each("blk 10737418", 3)
	each("cls -10737418", 3)
	for _, s := range []string{"num 10", "sel 9", "cls -123", "blk -1073741824"} {
		turned(s, func(s string) { values(t, s) })
	}
}

// turned hands on s with each byte made each other one, without each byte, and with each byte put in ahead of each.
func turned(s string, do func(s string)) {
	for i := range len(s) + 1 {
		for c := range 256 {
			do(s[:i] + string([]byte{byte(c)}) + s[i:])
			if i < len(s) {
				do(s[:i] + string([]byte{byte(c)}) + s[i+1:])
			}
		}
		do(s[:i])
		do(s[i:])
		if i < len(s) {
			do(s[:i] + s[i+1:])
			do(s[:i+1] + s[i:])
		}
	}
}

func TestParse(t *testing.T) {
	for _, c := range []struct {
		s    string
		want api.Method
	}{
		{"method 0 0\n", api.Method{}},
		{"method 255 255\n", api.Method{Args: 255, Temps: 255}},
		{"method 1 2\nlit num -5\nlit sel 1\nlit cls 2\nlit blk 3\n  pushtemp 2\n  pushnum -1\n  pushnum -128\n  pushnum 127\n  prim 0\n  return 255\n",
			api.Method{Args: 1, Temps: 2, Lits: []api.Val{val(3, -5), val(5, 1), val(6, 2), val(7, 3)}, Code: []byte{0, 2, 7, 255, 7, 128, 7, 127, 21, 0, 14, 255}}},
		{"method 0 0\n  iffalse 3\n  op22 3\n  op255 0\nbyte 9\n", api.Method{Code: []byte{17, 3, 22, 3, 255, 0, 9}}},
		{"method 0 0\nbyte 0\n", api.Method{Code: []byte{0}}},
		{"method 0 0\nlit num 1\nbyte 255\n", api.Method{Lits: []api.Val{val(3, 1)}, Code: []byte{255}}},
	} {
		if got, line := text.Parse(c.s); !same(got, c.want) || line != 0 {
			t.Errorf("P17.1: Parse(%q): %v, %d, not %v", c.s, got, line, c.want)
		}
		parses(t, c.s)
	}
	if m, _ := text.Parse("method 0 0\n"); len(m.Lits)+len(m.Code) > 0 {
		t.Errorf("P17.1: Parse of no more than a first line: %v", m)
	}
}

func TestParseWrong(t *testing.T) {
	for _, c := range []struct {
		s    string
		line int
	}{
		{"", 1}, {"\n", 1}, {"method 0 0", 1}, {"method 0 0\r\n", 1}, {"\nmethod 0 0\n", 1}, {"lit num 1\n", 1}, {"  pop 0\n", 1}, {"byte 1\n", 1},
		{"method 256 0\n", 1}, {"method 0 256\n", 1}, {"method -1 0\n", 1}, {"method 0 -1\n", 1}, {"method -0 0\n", 1}, {"method 00 0\n", 1}, {"method 0 00\n", 1}, {"method 0 0 \n", 1}, {"method 0 0 0\n", 1}, {"method 0\n", 1}, {"method 0 \n", 1}, {"method  0\n", 1}, {"method  0 0\n", 1}, {"method\n", 1}, {"method \n", 1}, {" method 0 0\n", 1}, {"methods 0 0\n", 1}, {"0 0\n", 1}, {"method 4294967296 0\n", 1},
		{"method 0 0\n\n", 2}, {"method 0 0\n\nmethod 0 0\n", 2}, {"method 0 0\nmethod 0 0\n", 2}, {"method 0 0\n ", 2}, {"method 0 0\n  pop 0", 2}, {"method 0 0\nlit num 1", 2}, {"method 0 0\nbyte 1", 2}, {"method 0 0\n  pop 0\n\n", 3},
		{"method 0 0\nlit \n", 2}, {"method 0 0\nlit\n", 2}, {"method 0 0\nlit nil 0\n", 2}, {"method 0 0\nlit ref 0\n", 2}, {"method 0 0\nlit num 01\n", 2}, {"method 0 0\nnum 1\n", 2}, {"method 0 0\n  lit num 1\n", 2}, {"method 0 0\nlit num 1073741824\n", 2},
		{"method 0 0\n  pop 0\nlit num 1\n", 3}, {"method 0 0\nbyte 1\nlit num 1\n", 3}, {"method 0 0\nbyte 1\n  pop 0\n", 3}, {"method 0 0\nbyte 1\nbyte 1\n", 3}, {"method 0 0\nbyte 1\n\n", 3}, {"method 0 0\nlit num 1\nmethod 0 0\n", 3},
		{"method 0 0\npop 0\n", 2}, {"method 0 0\n pop 0\n", 2}, {"method 0 0\n   pop 0\n", 2}, {"method 0 0\n\tpop 0\n", 2}, {"method 0 0\n  pop  0\n", 2}, {"method 0 0\n  pop 0 \n", 2}, {"method 0 0\n  pop\n", 2}, {"method 0 0\n  pop \n", 2}, {"method 0 0\n  Pop 0\n", 2}, {"method 0 0\n  pops 0\n", 2}, {"method 0 0\n  0\n", 2}, {"method 0 0\n   0\n", 2}, {"method 0 0\n  \n", 2},
		{"method 0 0\n  pop 256\n", 2}, {"method 0 0\n  pop -1\n", 2}, {"method 0 0\n  pop 00\n", 2}, {"method 0 0\n  pop +1\n", 2}, {"method 0 0\n  pushnum 128\n", 2}, {"method 0 0\n  pushnum -129\n", 2}, {"method 0 0\n  pushnum 255\n", 2}, {"method 0 0\n  pushnum -0\n", 2}, {"method 0 0\n  pushnum +5\n", 2},
		{"method 0 0\n  op17 3\n", 2}, {"method 0 0\n  op7 3\n", 2}, {"method 0 0\n  op0 3\n", 2}, {"method 0 0\n  op21 3\n", 2}, {"method 0 0\n  op256 3\n", 2}, {"method 0 0\n  op022 3\n", 2}, {"method 0 0\n  op-1 3\n", 2}, {"method 0 0\n  op 3\n", 2}, {"method 0 0\n  op22\n", 2}, {"method 0 0\n  op22 -1\n", 2}, {"method 0 0\n  op22 256\n", 2}, {"method 0 0\n  22 3\n", 2}, {"method 0 0\n  op278 3\n", 2}, {"method 0 0\n  op4294967318 3\n", 2},
		{"method 0 0\nbyte 256\n", 2}, {"method 0 0\nbyte -1\n", 2}, {"method 0 0\nbyte 01\n", 2}, {"method 0 0\n  byte 1\n", 2}, {"method 0 0\nbyte \n", 2}, {"method 0 0\nbyte\n", 2}, {"method 0 0\nbyte 1 \n", 2},
		{"method x 0\n  pop x\n", 1}, {"method 0 0\n  pop 0\n  pop 0\n  pop x\n  pop x\n", 4}, {"method 0 0\nlit num 1\nlit num 2\nlit x\n  pop x\n", 4},
	} {
		if got, line := text.Parse(c.s); !reflect.DeepEqual(got, api.Method{}) || line != c.line {
			t.Errorf("P17.1: Parse(%q): %v, %d, not %d", c.s, got, line, c.line)
		}
		parses(t, c.s)
	}
}

// Each row of up to five lines, right ones and wrong ones, and those of six that begin with a first line and another right one; with the last line's end and without it.
func TestParseOfEachOrder(t *testing.T) {
	lines := []string{"method 1 2\n", "lit num 3\n", "  pushnum -4\n", "  op99 5\n", "byte 6\n", "\n", "lit \n"}
	var each func(s string, n int)
	each = func(s string, n int) {
		parses(t, s)
		parses(t, strings.TrimSuffix(s, "\n"))
		if n == 0 {
			return
		}
		for _, line := range lines {
			each(s+line, n-1)
		}
	}
	each("", 5)
	for _, line := range lines[:5] {
		each(lines[0]+line, 4)
	}
}

func TestParseOfEachNumber(t *testing.T) {
	for n := -300; n < 600; n++ {
		eachPlace(t, strconv.Itoa(n))
		eachPlace(t, "0"+strconv.Itoa(n))
		eachPlace(t, "+"+strconv.Itoa(n))
	}
	for _, n := range append(wild, edges...) {
		eachPlace(t, strconv.Itoa(n))
	}
	for _, s := range []string{"", "-", "-0", "--1", " 1", "1 ", "1.0", "0x1", "1_0", "18446744073709551616", "18446744073709551617", "-18446744073709551617", "340282366920938463463374607431768211457", strings.Repeat("0", 1000), strings.Repeat("9", 1000), "1" + strings.Repeat("0", 1000)} {
		eachPlace(t, s)
	}
}

// eachPlace parses texts with s for each of their numbers.
func eachPlace(t *testing.T, s string) {
	t.Helper()
	parses(t, "method "+s+" 3\n")
	parses(t, "method 3 "+s+"\n")
	parses(t, "method "+s+" "+s+"\n")
	const first = "method 0 0\nlit num 1\n"
	for _, word := range []string{"num", "sel", "cls", "blk", "ref", "", "num 1"} {
		parses(t, first+"lit "+word+" "+s+"\n  pop 0\n")
	}
	for _, word := range append([]string{"", "op", "op22", "op255", "op256"}, opNames...) {
		parses(t, first+"  "+word+" "+s+"\n  pop 0\n")
	}
	parses(t, first+"  op"+s+" 3\n  pop 0\n")
	parses(t, first+"  op"+s+" "+s+"\n")
	parses(t, first+"byte "+s+"\n")
}

func TestParseOfEachOp(t *testing.T) {
	for op := range 300 {
		for _, word := range []string{"op" + strconv.Itoa(op), "op0" + strconv.Itoa(op), "op-" + strconv.Itoa(op), strconv.Itoa(op)} {
			parses(t, "method 0 0\n  "+word+" 3\n")
		}
	}
	for _, word := range opNames {
		turned("  "+word+" 1", func(s string) { parses(t, "method 0 0\n"+s+"\n") })
	}
}

func TestParseTurned(t *testing.T) {
	for _, s := range []string{"method 0 0\n", "method 12 3\nlit num -5\nlit sel 1\n  pushnum -12\n  op99 1\n  dup 20\nbyte 3\n", "method 1 0\nbyte 255\n"} {
		turned(s, func(s string) { parses(t, s) })
	}
}

func TestParseDrawn(t *testing.T) {
	r := rand.New(rand.NewSource(173))
	for range 20000 {
		s := []byte(text.Print(drawn(r)))
		for range r.Intn(3) {
			s = spoiled(r, s)
		}
		parses(t, string(s))
	}
	for range 20000 {
		s := make([]byte, r.Intn(40))
		for i := range s {
			s[i] = "method litnumbyp 0123\n\n"[r.Intn(23)]
		}
		parses(t, string(s))
		parses(t, "method 1 1\n"+string(s))
	}
}

// spoiled is s with a byte or a line of it changed, gone or put somewhere else.
func spoiled(r *rand.Rand, s []byte) []byte {
	i := r.Intn(len(s) + 1)
	switch r.Intn(4) {
	case 0:
		return slices.Insert(s, i, "0123456789- \nabop"[r.Intn(17)])
	case 1:
		return slices.Delete(s, i, min(i+1, len(s)))
	case 2:
		l := strings.SplitAfter(string(s), "\n")
		a, b := r.Intn(len(l)), r.Intn(len(l))
		l[a], l[b] = l[b], l[a]
		return []byte(strings.Join(l, ""))
	}
	l := strings.SplitAfter(string(s), "\n")
	a := r.Intn(len(l))
	return []byte(strings.Join(slices.Insert(l, a, l[r.Intn(len(l))]), ""))
}

func TestParseOfLongOnes(t *testing.T) {
	var b strings.Builder
	b.WriteString("method 0 0\n")
	for i := range 3000 {
		b.WriteString("lit num " + strconv.Itoa(i) + "\n")
	}
	for i := range 70000 {
		b.WriteString("  op" + strconv.Itoa(22+i%234) + " " + strconv.Itoa(i%256) + "\n")
	}
	s := b.String()
	parses(t, s)
	parses(t, s+"byte 3\n")
	if m, line := text.Parse(s + "byte 3"); !same(m, api.Method{}) || line != 73002 {
		t.Errorf("P17.1: a long one that is not ended: %d", line)
	}
	if m, line := text.Parse(s + "byte 3\n\n"); !same(m, api.Method{}) || line != 73003 {
		t.Errorf("P17.1: a line behind a long one: %d", line)
	}
	for _, s := range []string{strings.Repeat("\n", 100000), strings.Repeat(" ", 100000), strings.Repeat("method 0 0\n", 100000), "method 0 0\n" + strings.Repeat("  ", 100000), "method 0 0\n" + strings.Repeat("lit ", 100000) + "\n"} {
		parses(t, s)
	}
}

func TestParseAnswersNewMemory(t *testing.T) {
	const s = "method 1 2\nlit num 3\nlit num 4\n  pop 5\n  dup 6\nbyte 7\n"
	want, _ := plainParse(s)
	a, _ := text.Parse(s)
	b, _ := text.Parse(s)
	for i := range a.Lits[:cap(a.Lits)] {
		a.Lits[:cap(a.Lits)][i] = val(99, 99)
	}
	for i := range a.Code[:cap(a.Code)] {
		a.Code[:cap(a.Code)][i] = 99
	}
	if c, line := text.Parse(s); !same(b, want) || !same(c, want) || line != 0 {
		t.Errorf("R2: Parse: %v, %v, %d", b, c, line)
	}
}
