package word_test

import (
	"math"
	"testing"

	"treadwheel/word"
)

const (
	least = -1 << 30
	most  = 1<<30 - 1
)

type reckoning func(a, b uint32) (uint32, bool)

// edges are the numbers beside which a mark, a sign or a bound may go wrong.
var edges = []int{least, least + 1, least / 2, -1 << 15, -8, -7, -3, -2, -1, 0, 1, 2, 3, 7, 8, 1 << 15, most / 2, most - 1, most}

// noNumbers are the words that no reckoning takes.
var noNumbers = []uint32{word.None, word.Nil, word.False, word.True, word.Oop(word.First), 0x80000000, math.MaxUint32 - 1}

func mustInt(t *testing.T, n int) uint32 {
	t.Helper()
	w, ok := word.Int(n)
	if !ok {
		t.Fatalf("P1.1: Int(%d) is refused", n)
	}
	return w
}

func TestKnownWords(t *testing.T) {
	for id, want := range []uint32{word.None, word.Nil, word.False, word.True, 8} {
		if got := word.Oop(id); got != want {
			t.Errorf("P1.1: Oop(%d): %#x, want %#x", id, got, want)
		}
	}
	if word.None != 0 || word.Nil != 2 || word.False != 4 || word.True != 6 || word.First != 4 {
		t.Error("P1.1: a known word is another one")
	}
}

func TestIntGivesTheWord(t *testing.T) {
	for _, c := range []struct {
		n    int
		want uint32
	}{{0, 1}, {1, 3}, {2, 5}, {100, 201}, {-1, math.MaxUint32}, {-2, 0xfffffffd}, {most, 0x7fffffff}, {most - 1, 0x7ffffffd}, {least, 0x80000001}, {least + 1, 0x80000003}} {
		if w, ok := word.Int(c.n); w != c.want || !ok {
			t.Errorf("P1.1: Int(%d): %#x, %v, want %#x", c.n, w, ok, c.want)
		}
	}
}

func TestIntRefuses(t *testing.T) {
	for _, n := range []int{most + 1, most + 2, least - 1, least - 2, 1 << 31, -1 << 31, 1<<32 + 5, -1 << 32, math.MaxInt, math.MinInt} {
		if w, ok := word.Int(n); w != 0 || ok {
			t.Errorf("P1.1: Int(%d): %#x, %v", n, w, ok)
		}
	}
}

func TestNumGoesBack(t *testing.T) {
	for _, n := range edges {
		if got, ok := word.Num(mustInt(t, n)); got != n || !ok {
			t.Errorf("P1.1: Num of Int(%d): %d, %v", n, got, ok)
		}
	}
	for _, w := range noNumbers {
		if n, ok := word.Num(w); n != 0 || ok {
			t.Errorf("P1.1: Num(%#x): %d, %v", w, n, ok)
		}
	}
}

func TestIDGoesBack(t *testing.T) {
	for _, id := range []int{1, 2, 3, word.First, 5, 1000, 1 << 30, 1<<30 + 1, 1<<31 - 1} {
		w := word.Oop(id)
		if w != uint32(2*id) {
			t.Errorf("P1.1: Oop(%d): %#x", id, w)
		}
		if got, ok := word.ID(w); got != id || !ok {
			t.Errorf("P1.1: ID of Oop(%d): %d, %v", id, got, ok)
		}
	}
}

func TestOopRefuses(t *testing.T) {
	for _, id := range []int{0, -1, -4, 1 << 31, 1<<31 + 4, 1<<32 + 4, math.MaxInt, math.MinInt} {
		if w := word.Oop(id); w != word.None {
			t.Errorf("P1.1: Oop(%d): %#x", id, w)
		}
	}
}

func TestIDRefuses(t *testing.T) {
	for _, w := range []uint32{word.None, 1, 3, 9, 0x7fffffff, 0x80000001, math.MaxUint32} {
		if id, ok := word.ID(w); id != 0 || ok {
			t.Errorf("P1.1: ID(%#x): %d, %v", w, id, ok)
		}
	}
}

func checkReckoning(t *testing.T, name string, f reckoning, a, b, want int) {
	t.Helper()
	got, ok := f(mustInt(t, a), mustInt(t, b))
	if want < least || want > most {
		if got != 0 || ok {
			t.Errorf("P1.2: %s(%d, %d): %#x, %v, want false", name, a, b, got, ok)
		}
		return
	}
	if n, is := word.Num(got); n != want || !is || !ok {
		t.Errorf("P1.2: %s(%d, %d): %d, %v, %v, want %d", name, a, b, n, is, ok, want)
	}
}

func TestReckoningsAtTheEdges(t *testing.T) {
	for _, a := range edges {
		for _, b := range edges {
			checkReckoning(t, "Add", word.Add, a, b, a+b)
			checkReckoning(t, "Sub", word.Sub, a, b, a-b)
			checkReckoning(t, "Mul", word.Mul, a, b, a*b)
			if less, ok := word.Less(mustInt(t, a), mustInt(t, b)); less != (a < b) || !ok {
				t.Errorf("P1.2: Less(%d, %d): %v, %v", a, b, less, ok)
			}
		}
	}
}

func TestDivRoundsTowardLess(t *testing.T) {
	for _, c := range [][3]int{{7, 2, 3}, {-7, 2, -4}, {7, -2, -4}, {-7, -2, 3}, {6, 3, 2}, {-6, 3, -2}, {6, -3, -2}, {-6, -3, 2}, {0, 5, 0}, {0, -5, 0}, {1, most, 0}, {-1, most, -1}, {1, least, -1}, {-1, least, 0}, {least, most, -2}, {most, least, -1}, {least, 1, least}, {least, -2, 1 << 29}, {most, -1, -most}, {most, 1, most}} {
		checkReckoning(t, "Div", word.Div, c[0], c[1], c[2])
	}
}

func TestDivRefuses(t *testing.T) {
	checkReckoning(t, "Div", word.Div, least, -1, 1<<30)
	for _, a := range edges {
		if w, ok := word.Div(mustInt(t, a), mustInt(t, 0)); w != 0 || ok {
			t.Errorf("P1.2: Div(%d, 0): %#x, %v", a, w, ok)
		}
	}
}

func TestDivOfSmallNumbers(t *testing.T) {
	for a := -40; a <= 40; a++ {
		for b := -9; b <= 9; b++ {
			if b != 0 {
				checkReckoning(t, "Div", word.Div, a, b, int(math.Floor(float64(a)/float64(b))))
			}
		}
	}
}

func TestReckoningsRefuseNoNumbers(t *testing.T) {
	number := mustInt(t, 6)
	for i, f := range []reckoning{word.Add, word.Sub, word.Mul, word.Div} {
		for _, bad := range noNumbers {
			for _, pair := range [][2]uint32{{bad, number}, {number, bad}, {bad, bad}} {
				if w, ok := f(pair[0], pair[1]); w != 0 || ok {
					t.Errorf("P1.2: reckoning %d of %#x, %#x: %#x, %v", i, pair[0], pair[1], w, ok)
				}
			}
		}
	}
}

func TestLessRefusesNoNumbers(t *testing.T) {
	for _, bad := range noNumbers {
		for _, number := range []int{least, 0, most} {
			w := mustInt(t, number)
			for _, pair := range [][2]uint32{{bad, w}, {w, bad}, {bad, bad}} {
				if less, ok := word.Less(pair[0], pair[1]); less || ok {
					t.Errorf("P1.2: Less(%#x, %#x): %v, %v", pair[0], pair[1], less, ok)
				}
			}
		}
	}
}
