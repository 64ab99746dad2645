package pace_test

import (
	"math"
	"testing"

	"treadwheel/pace"
)

const (
	mostWords = 1048576       // 2^20
	mostDebt  = 1099511627776 // 2^40
)

// words are numbers given or done, and what each is held at.
var words = []struct{ n, held int }{
	{0, 0}, {1, 1}, {2, 2}, {63, 63}, {64, 64}, {1000, 1000}, {65536, 65536},
	{mostWords - 1, mostWords - 1}, {mostWords, mostWords}, {mostWords + 1, mostWords},
	{1 << 31, mostWords}, {1 << 32, mostWords}, {1<<32 + 1, mostWords}, {mostDebt, mostWords}, {1 << 60, mostWords},
	{math.MaxInt, mostWords}, {math.MaxInt - 1, mostWords},
	{-1, 0}, {-2, 0}, {-mostWords, 0}, {-1 << 32, 0}, {1 - 1<<32, 0}, {math.MinInt + 1, 0}, {math.MinInt, 0},
}

// debt tells t where p's debt is not want, or changes by being asked.
func debt(t *testing.T, what string, p *pace.Pace, want int) {
	t.Helper()
	for range 2 {
		if got := p.Debt(); got != want {
			t.Errorf("P6.1: %s: Debt: %d, not %d", what, got, want)
		}
	}
}

// owing answers a pace of k whose debt is that many Gives of all the words that one takes.
func owing(k, times int) *pace.Pace {
	p := pace.New(k)
	for range times {
		p.Give(mostWords)
	}
	return p
}

func TestNew(t *testing.T) {
	for k := 1; k <= 16; k++ {
		p := pace.New(k)
		debt(t, "a new pace", p, 0)
		if got := p.Give(1); got != k {
			t.Errorf("P6.1: New(%d): Give(1): %d", k, got)
		}
	}
	for _, c := range []struct{ k, held int }{
		{0, 1}, {-1, 1}, {-16, 1}, {-1 << 32, 1}, {2 - 1<<32, 1}, {math.MinInt, 1},
		{17, 16}, {32, 16}, {256, 16}, {1 << 32, 16}, {1<<32 + 2, 16}, {1 << 62, 16}, {math.MaxInt, 16},
	} {
		p := pace.New(c.k)
		debt(t, "a new pace", p, 0)
		if got := p.Give(100); got != 100*c.held {
			t.Errorf("P6.1: New(%d), held at %d: Give(100): %d", c.k, c.held, got)
		}
	}
}

func TestRun(t *testing.T) {
	p := pace.New(2)
	if got := p.Give(4); got != 8 {
		t.Errorf("P6.1: the run: %d", got)
	}
	if got := p.Give(-1); got != 8 {
		t.Errorf("P6.1: Give(-1), which answers the debt: %d", got)
	}
	p.Did(9)
	debt(t, "Did of more than the debt", p, 0)
}

func TestGive(t *testing.T) {
	for k := 1; k <= 16; k++ {
		for _, c := range words {
			p := pace.New(k)
			if got := p.Give(c.n); got != k*c.held {
				t.Errorf("P6.1: New(%d): Give(%d): %d, not %d", k, c.n, got, k*c.held)
			}
			debt(t, "after Give", p, k*c.held)
			if got := p.Give(5); got != k*c.held+k*5 {
				t.Errorf("P6.1: New(%d): Give(%d), then Give(5): %d", k, c.n, got)
			}
			debt(t, "after Give twice", p, k*c.held+k*5)
		}
	}
}

// What is done counts word by word, whatever each one given counted.
func TestDid(t *testing.T) {
	for _, k := range []int{1, 2, 3, 16} {
		for _, given := range []int{0, 1, 2, 64, 1000, mostWords - 1, mostWords} {
			for _, c := range words {
				p := pace.New(k)
				p.Give(given)
				p.Did(c.n)
				want := k*given - c.held
				if want < 0 {
					want = 0
				}
				debt(t, "after Did", p, want)
				if got := p.Give(3); got != want+k*3 {
					t.Errorf("P6.1: New(%d): Give(%d), Did(%d), Give(3): %d, not %d", k, given, c.n, got, want+k*3)
				}
			}
		}
	}
	p := pace.New(1)
	p.Give(10)
	for i, want := range []int{7, 4, 1, 0, 0} {
		p.Did(3)
		if got := p.Debt(); got != want {
			t.Errorf("P6.1: Did(3), time %d: %d, not %d", i, got, want)
		}
	}
	p = pace.New(1)
	p.Give(10)
	p.Did(10)
	debt(t, "Did of the debt", p, 0)
}

func TestRest(t *testing.T) {
	for _, k := range []int{1, 5, 16} {
		for _, times := range []int{0, 1, 3} {
			p := owing(k, times)
			for range 2 {
				p.Rest()
				debt(t, "after Rest", p, 0)
			}
			p.Did(7)
			debt(t, "after Rest and Did", p, 0)
			if got := p.Give(2); got != k*2 {
				t.Errorf("P6.1: New(%d): Give(2) after Rest: %d", k, got)
			}
		}
	}
}

func TestHeldDebt(t *testing.T) {
	p := owing(16, 1<<16-1)
	debt(t, "one Give ahead of the greatest debt", p, mostDebt-16*mostWords)
	if got := p.Give(mostWords - 1); got != mostDebt-16 {
		t.Errorf("P6.1: to 16 less than the greatest debt: %d", got)
	}
	if got := p.Give(1); got != mostDebt {
		t.Errorf("P6.1: to the greatest debt: %d", got)
	}
	for _, c := range words {
		if got := p.Give(c.n); got != mostDebt {
			t.Errorf("P6.1: Give(%d) at the greatest debt: %d", c.n, got)
		}
		debt(t, "Give at the greatest debt", p, mostDebt)
	}
	p.Did(1)
	debt(t, "one less than the greatest debt", p, mostDebt-1)
	if got := p.Give(1); got != mostDebt {
		t.Errorf("P6.1: Give(1) at one less than the greatest debt: %d", got)
	}
	p.Did(math.MaxInt)
	debt(t, "Did of all that one takes at the greatest debt", p, mostDebt-mostWords)
	p.Rest()
	debt(t, "Rest at the greatest debt", p, 0)
}

// Three times 2^20 do not divide 2^40: the last Give that counts is held amid its words.
func TestHeldAmid(t *testing.T) {
	p := owing(3, 349525)
	debt(t, "the last Give below the greatest debt", p, mostDebt-mostWords)
	if got := p.Give(mostWords); got != mostDebt {
		t.Errorf("P6.1: a Give that goes beyond the greatest debt: %d", got)
	}
	debt(t, "a Give that goes beyond the greatest debt", p, mostDebt)
}

// A long walk of calls, right and wrong, is held against a plain sum.
func TestLongWalk(t *testing.T) {
	step := uint32(1)
	pick := func(n int) int {
		step = step*1664525 + 1013904223
		return int(step>>8) % n
	}
	for k := 1; k <= 16; k++ {
		p, sum := pace.New(k), 0
		for range 3000 {
			w := words[pick(len(words))]
			switch kind := pick(16); {
			case kind == 0:
				p.Rest()
				sum = 0
			case kind < 6:
				sum += k * w.held
				if got := p.Give(w.n); got != sum {
					t.Fatalf("P6.1: the walk of New(%d): Give(%d): %d, not %d", k, w.n, got, sum)
				}
			default:
				p.Did(w.n)
				if sum -= w.held; sum < 0 {
					sum = 0
				}
			}
			debt(t, "the walk", p, sum)
		}
	}
}

func TestApart(t *testing.T) {
	p, other := pace.New(2), pace.New(3)
	p.Give(10)
	debt(t, "a pace beside another one", other, 0)
	other.Give(10)
	other.Rest()
	debt(t, "a pace beside one that rests", p, 20)
	other.Give(1)
	p.Did(5)
	debt(t, "a pace beside one that did", other, 3)
}
