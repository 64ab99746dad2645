// Package word marks words of 32 bits: each one is a number or an identity. See doc/01-word.md.
package word

// The words that are known ahead of every program, and the first identity of an object.
const (
	None  = uint32(0)
	Nil   = uint32(2)
	False = uint32(4)
	True  = uint32(6)
	First = 4
)

const (
	mark     = 1 // the bit that tells a number from an identity
	least    = -1 << 30
	most     = 1<<30 - 1
	greatest = 1<<31 - 1 // of identities
)

// Int answers the word of n; 0, false, if n is not -2^30 to 2^30 - 1.
func Int(n int) (uint32, bool) { return wordOf(int64(n)) }

// Num answers the number of w; 0, false, if w is none.
func Num(w uint32) (int, bool) {
	if !isNumber(w) {
		return 0, false
	}
	return int(number(w)), true
}

// Oop answers the word of an identity; None, if id is not 1 to 2^31 - 1.
func Oop(id int) uint32 {
	if id < 1 || id > greatest {
		return None
	}
	return uint32(id) << 1
}

// ID answers the identity of w; 0, false, if w is a number or None.
func ID(w uint32) (int, bool) {
	if isNumber(w) || w == None {
		return 0, false
	}
	return int(w >> 1), true
}

// Add answers a + b; 0, false, if one of them is no number, or the sum is none.
func Add(a, b uint32) (uint32, bool) {
	if !areNumbers(a, b) {
		return 0, false
	}
	return wordOf(number(a) + number(b))
}

// Sub answers a - b; 0, false, if one of them is no number, or the difference is none.
func Sub(a, b uint32) (uint32, bool) {
	if !areNumbers(a, b) {
		return 0, false
	}
	return wordOf(number(a) - number(b))
}

// Mul answers a times b; 0, false, if one of them is no number, or the product is none.
func Mul(a, b uint32) (uint32, bool) {
	if !areNumbers(a, b) {
		return 0, false
	}
	return wordOf(number(a) * number(b))
}

// Div answers a by b, rounded toward less; 0, false, if one of them is no number, b is 0, or the quotient is none.
func Div(a, b uint32) (uint32, bool) {
	if !areNumbers(a, b) || number(b) == 0 {
		return 0, false
	}
	return wordOf(floor(number(a), number(b)))
}

// Less tells whether a is less than b, and whether both are numbers.
func Less(a, b uint32) (bool, bool) {
	if !areNumbers(a, b) {
		return false, false
	}
	return number(a) < number(b), true
}

func isNumber(w uint32) bool { return w&mark == mark }

func areNumbers(a, b uint32) bool { return isNumber(a) && isNumber(b) }

// number goes by int32, so that the shift carries the sign down; 64 bits then hold every product of two numbers.
func number(w uint32) int64 { return int64(int32(w) >> 1) }

func wordOf(n int64) (uint32, bool) {
	if n < least || n > most {
		return 0, false
	}
	return uint32(n)<<1 | mark, true
}

// floor mends Go's quotient, which is rounded toward zero: it is one too great where a remainder's sign is not b's.
func floor(a, b int64) int64 {
	q, rest := a/b, a%b
	if rest != 0 && (rest < 0) != (b < 0) {
		q--
	}
	return q
}
