package text

import (
	"math"
	"strings"

	"treadwheel/api"
	"treadwheel/code"
)

// Parts of a method's text, in the order of their lines.
const (
	nothing = iota // no line yet
	method
	lit
	inst
	alone
)

// mostDigits has room for every number that is read, and none that goes beyond an int.
const mostDigits = 10

// reader keeps the method of the lines that were read, and which part the last one was.
type reader struct {
	m    api.Method
	last int
}

// Parse answers the method whose text s is, and 0; or the number of the first line that is none.
func Parse(s string) (api.Method, int) {
	var r reader
	for n := 1; ; n++ {
		line, left, ended := strings.Cut(s, lineEnd)
		if !ended || !r.read(line) {
			return api.Method{}, n
		}
		if left == "" {
			return r.m, 0
		}
		s = left
	}
}

// Value answers the literal whose text s is; false, if it is none's.
func Value(s string) (api.Val, bool) {
	word, digits, _ := strings.Cut(s, " ")
	n, ok := number(digits, leastNum, mostNum)
	if !ok {
		return api.Val{}, false
	}
	for _, kind := range [...]int{api.Num, api.Sel, api.Cls, api.Blk} {
		if word == kindText(kind) {
			return api.Val{Kind: kind, N: n}, true
		}
	}
	return api.Val{}, false
}

// read adds what a line tells to the method, if it may stand behind the last one.
func (r *reader) read(line string) bool {
	switch r.last {
	case nothing:
		return r.readMethod(line)
	case method, lit:
		return r.readLit(line) || r.readInst(line) || r.readAlone(line)
	case inst:
		return r.readInst(line) || r.readAlone(line)
	}
	return false
}

func (r *reader) readMethod(line string) bool {
	rest, is := strings.CutPrefix(line, methodLine)
	left, right, _ := strings.Cut(rest, " ")
	args, ok := number(left, 0, mostByte)
	temps, okToo := number(right, 0, mostByte)
	if !is || !ok || !okToo {
		return false
	}
	r.m.Args, r.m.Temps, r.last = args, temps, method
	return true
}

func (r *reader) readLit(line string) bool {
	rest, is := strings.CutPrefix(line, litLine)
	v, ok := Value(rest)
	if !is || !ok {
		return false
	}
	r.m.Lits, r.last = append(r.m.Lits, v), lit
	return true
}

func (r *reader) readInst(line string) bool {
	rest, is := strings.CutPrefix(line, instLine)
	word, digits, _ := strings.Cut(rest, " ")
	op, ok := opOf(word)
	if !is || !ok {
		return false
	}
	arg, ok := argOf(op, digits)
	if !ok {
		return false
	}
	r.m.Code, r.last = append(r.m.Code, code.Bytes([]code.Inst{{Op: op, Arg: arg}})...), inst
	return true
}

func (r *reader) readAlone(line string) bool {
	rest, is := strings.CutPrefix(line, byteLine)
	n, ok := number(rest, 0, mostByte)
	if !is || !ok {
		return false
	}
	r.m.Code, r.last = append(r.m.Code, byte(n)), alone
	return true
}

// opOf answers the op whose text a word is; an op that has a name is told by that alone.
func opOf(word string) (int, bool) {
	if word == "" {
		return 0, false
	}
	for op := range mostByte + 1 {
		if code.Name(op) == word {
			return op, true
		}
	}
	digits, is := strings.CutPrefix(word, nameless)
	op, ok := number(digits, 0, mostByte)
	return op, is && ok && code.Name(op) == ""
}

func argOf(op int, digits string) (int, bool) {
	if op == api.PushNum {
		return number(digits, math.MinInt8, math.MaxInt8)
	}
	return number(digits, 0, mostByte)
}

// number answers what s says, if that is how Print writes it, and it is not below least nor above most.
func number(s string, least, most int) (int, bool) {
	digits, below := strings.CutPrefix(s, "-")
	n, ok := count(digits)
	if below && n == 0 {
		return 0, false
	}
	if below {
		n = -n
	}
	return n, ok && n >= least && n <= most
}

// count answers what some digits say; false, if they are not written as a number is.
func count(digits string) (int, bool) {
	if digits == "" || len(digits) > mostDigits || digits[0] == '0' && len(digits) > 1 {
		return 0, false
	}
	n := 0
	for _, c := range []byte(digits) {
		if c < '0' || c > '9' {
			return 0, false
		}
		n = 10*n + int(c-'0')
	}
	return n, true
}
