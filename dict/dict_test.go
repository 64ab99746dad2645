package dict_test

import (
	"math"
	"math/big"
	"math/rand"
	"slices"
	"testing"

	"treadwheel/api"
	"treadwheel/dict"
)

const (
	places = 16
	probes = 4
)

// wild are numbers at the edges of what a name's number may be.
var wild = []int{math.MinInt, math.MinInt + 1, -1 << 32, -1 << 31, -17, -16, -2, -1, 0, 1, 1 << 31, 1 << 32, math.MaxInt/7 - 1, math.MaxInt / 7, math.MaxInt/7 + 1, math.MaxInt/7 + 2, math.MaxInt / 2, math.MaxInt - 16, math.MaxInt - 1, math.MaxInt}

// first is a name's first place, reckoned in numbers of any length.
func first(sel int) int {
	n := new(big.Int).Mul(big.NewInt(int64(sel)), big.NewInt(7))
	return int(n.Mod(n, big.NewInt(places)).Int64())
}

// plain is what a dict is, said once more.
type plain map[int]api.Bind // by place

// where answers the places that a name may have, in order.
func where(sel int) []int {
	var row []int
	for i := range probes {
		row = append(row, (first(sel)+i)%places)
	}
	return row
}

func (p plain) put(sel, method int) bool {
	if sel < 0 {
		return false
	}
	for _, at := range where(sel) {
		if b, ok := p[at]; ok && b.Sel == sel {
			p[at] = api.Bind{Sel: sel, Method: method}
			return true
		}
	}
	for _, at := range where(sel) {
		if _, ok := p[at]; !ok {
			p[at] = api.Bind{Sel: sel, Method: method}
			return true
		}
	}
	return false
}

func (p plain) find(sel int) (int, int) {
	if sel < 0 {
		return -1, 0
	}
	for i, at := range where(sel) {
		b, ok := p[at]
		if !ok {
			return -1, i + 1
		}
		if b.Sel == sel {
			return b.Method, i + 1
		}
	}
	return -1, probes
}

// has tells t where d is not p: by Len, and by Find of each name up to some, of those that are there, and of wild ones.
func has(t *testing.T, what string, d *dict.Dict, p plain, beside ...int) {
	t.Helper()
	if n := d.Len(); n != len(p) {
		t.Fatalf("P12.1: %s: Len: %d, not %d", what, n, len(p))
	}
	asked := append(slices.Clone(wild), beside...)
	for sel := range 3 * places {
		asked = append(asked, sel)
	}
	for _, b := range p {
		asked = append(asked, b.Sel)
	}
	for _, sel := range asked {
		method, looks := d.Find(sel)
		if wantMethod, wantLooks := p.find(sel); method != wantMethod || looks != wantLooks {
			t.Fatalf("P12.1: %s: Find(%d): %d, %d, not %d, %d", what, sel, method, looks, wantMethod, wantLooks)
		}
	}
}

// puts puts into both, and tells t where they differ in what they answer.
func puts(t *testing.T, d *dict.Dict, p plain, sel, method int) bool {
	t.Helper()
	want := p.put(sel, method)
	if got := d.Put(sel, method); got != want {
		t.Fatalf("P12.1: Put(%d, %d): %v, not %v", sel, method, got, want)
	}
	return want
}

func TestNew(t *testing.T) {
	d := dict.New()
	if method, looks := d.Find(3); method != -1 || looks != 1 {
		t.Errorf("P12.1: New: Find(3): %d, %d", method, looks)
	}
	for _, sel := range []int{0, 1, 15, 16, 47, math.MaxInt} {
		if method, looks := d.Find(sel); method != -1 || looks != 1 {
			t.Errorf("P12.1: New: Find(%d): %d, %d", sel, method, looks)
		}
	}
	for _, sel := range []int{-1, -2, -16, math.MinInt} {
		if method, looks := d.Find(sel); method != -1 || looks != 0 {
			t.Errorf("P12.1: New: Find(%d), below 0: %d, %d", sel, method, looks)
		}
	}
	has(t, "New", d, plain{})
}

// The places by number, so that a fault in the plain dict shows too.
func TestFirstPlace(t *testing.T) {
	for sel, at := range []int{0, 7, 14, 5, 12, 3, 10, 1, 8, 15, 6, 13, 4, 11, 2, 9} {
		if got := first(sel); got != at {
			t.Fatalf("first(%d): %d", sel, got)
		}
		d := dict.New()
		d.Put(sel, 50)
		for other := range 16 {
			want := 1
			if other*7%16 == at {
				want = 2
			}
			if method, looks := d.Find(other + 16); method != -1 || looks != want {
				t.Errorf("P12.1: Put(%d), Find(%d): %d, %d, not -1, %d", sel, other+16, method, looks, want)
			}
		}
	}
}

func TestPutTwice(t *testing.T) {
	d := dict.New()
	for _, method := range []int{20, 21, 0, -1, 21, math.MaxInt, math.MinInt, 5} {
		if !d.Put(3, method) {
			t.Errorf("P12.1: Put(3, %d): false", method)
		}
		if got, looks := d.Find(3); got != method || looks != 1 {
			t.Errorf("P12.1: Put(3, %d), Find: %d, %d", method, got, looks)
		}
		if n := d.Len(); n != 1 {
			t.Errorf("P12.1: Put of one name again: Len: %d", n)
		}
	}
}

func TestFiveOfOnePlace(t *testing.T) {
	for start := range places {
		d, p := dict.New(), plain{}
		for i := range 4 {
			if !puts(t, d, p, start+16*i, 10+i) {
				t.Fatalf("P12.1: name %d of one place: false", i+1)
			}
			if method, looks := d.Find(start + 16*i); method != 10+i || looks != i+1 {
				t.Fatalf("P12.1: name %d of one place: %d, %d", i+1, method, looks)
			}
			has(t, "of one place", d, p)
		}
		for range 3 {
			if puts(t, d, p, start+64, 14) {
				t.Fatal("P12.1: the fifth name of one place: true")
			}
			if method, looks := d.Find(start + 64); method != -1 || looks != 4 {
				t.Fatalf("P12.1: the fifth name of one place: %d, %d", method, looks)
			}
			has(t, "the fifth one refused", d, p, start+64)
		}
		for i := range 4 {
			if !puts(t, d, p, start+16*i, 30+i) {
				t.Fatalf("P12.1: name %d, its places full: false", i+1)
			}
			has(t, "a later method, the places full", d, p, start+64)
		}
	}
}

// A full dict takes later methods, and no name more.
func TestFull(t *testing.T) {
	d, p := dict.New(), plain{}
	for sel := range places {
		if !puts(t, d, p, sel, sel+100) {
			t.Fatalf("P12.1: Put(%d): false", sel)
		}
		has(t, "up to full", d, p)
	}
	for _, sel := range append([]int{16, 17, 31, 32, 47}, wild...) {
		want := sel == 0 || sel == 1
		if got := puts(t, d, p, sel, 7); got != want {
			t.Errorf("P12.1: full: Put(%d): %v", sel, got)
		}
		has(t, "full", d, p)
	}
	for sel := range places {
		puts(t, d, p, sel, -sel)
		has(t, "full, a later method", d, p)
	}
}

func TestBelowNought(t *testing.T) {
	for _, sel := range []int{-1, -2, -3, -7, -15, -16, -17, -1 << 31, -1 << 32, math.MinInt + 1, math.MinInt} {
		for _, n := range []int{0, 3, places} {
			d, p := dict.New(), plain{}
			for i := range n {
				puts(t, d, p, i, i)
			}
			if d.Put(sel, 5) {
				t.Errorf("P12.1: Put(%d), below 0: true", sel)
			}
			if method, looks := d.Find(sel); method != -1 || looks != 0 {
				t.Errorf("P12.1: Find(%d), below 0: %d, %d", sel, method, looks)
			}
			has(t, "below 0 refused", d, p)
		}
	}
}

// What is left of a great name times 7 is exact, though no int holds that.
func TestGreatNames(t *testing.T) {
	var great []int
	for i := range 40 {
		great = append(great, math.MaxInt-i, math.MaxInt/7+i-20, math.MaxInt/2+i-20, 1<<32+i, 1<<31+i-20, math.MaxInt/7*(1+i%7)+i-10, math.MaxInt/7*2+i)
	}
	for _, sel := range great {
		if sel < 0 {
			continue
		}
		d, p := dict.New(), plain{}
		if !puts(t, d, p, sel, 9) {
			t.Fatalf("P12.1: Put(%d): false", sel)
		}
		has(t, "a great name", d, p, great...)
	}
}

// A name keeps the place that it got first, whatever comes later.
func TestEachRowOfThree(t *testing.T) {
	names := []int{0, 1, 2, 5, 7, 9, 12, 14, 16, 17, 23, 25, 32, 48, math.MaxInt, -1}
	for _, a := range names {
		for _, b := range names {
			for _, c := range names {
				d, p := dict.New(), plain{}
				puts(t, d, p, a, 1)
				puts(t, d, p, b, 2)
				puts(t, d, p, c, 3)
				has(t, "a row of three", d, p)
			}
		}
	}
}

func TestDrawn(t *testing.T) {
	r := rand.New(rand.NewSource(12))
	for run := range 400 {
		d, p := dict.New(), plain{}
		for range 60 {
			sel := r.Intn(20<<(run%4)) - 2
			if r.Intn(4) == 0 {
				sel = wild[r.Intn(len(wild))]
			}
			puts(t, d, p, sel, r.Intn(40)-2)
			has(t, "drawn", d, p, sel)
		}
	}
}

func TestTwoDicts(t *testing.T) {
	a, b, p := dict.New(), dict.New(), plain{}
	for sel := range places {
		puts(t, a, p, sel, sel+1)
	}
	has(t, "the other one", b, plain{})
	b.Put(3, 70)
	has(t, "the full one", a, p)
	has(t, "the other one", b, plain{5: {Sel: 3, Method: 70}})
}

func TestOf(t *testing.T) {
	for _, l := range [][]api.Bind{
		nil, {}, {{Sel: 0, Method: 0}}, {{Sel: 47, Method: 31}, {Sel: 3}, {Sel: 19, Method: 2}},
		{{Sel: 3, Method: 1}, {Sel: 3, Method: 2}}, {{Sel: 3, Method: 2}, {Sel: 19, Method: 5}, {Sel: 3, Method: -1}, {Sel: 19}},
		{{Sel: 3}, {Sel: 19}, {Sel: 35}, {Sel: 51}, {Sel: 3, Method: 9}},
		{{Sel: math.MaxInt, Method: math.MinInt}, {Sel: math.MaxInt - 16, Method: math.MaxInt}},
		make([]api.Bind, 100000),
	} {
		p := plain{}
		for _, b := range l {
			p.put(b.Sel, b.Method)
		}
		d, ok := dict.Of(l)
		if d == nil || !ok {
			t.Fatalf("P12.1: Of(%v): %v, %v", l, d, ok)
		}
		has(t, "Of", d, p, 51, 67)
	}
}

// A false one refuses the row, wherever it stands, and though others come later.
func TestOfWrong(t *testing.T) {
	good := []api.Bind{{Sel: 0}, {Sel: 1}, {Sel: 2}}
	for at := range len(good) + 1 {
		for _, sel := range []int{-1, -16, math.MinInt} {
			if d, ok := dict.Of(slices.Insert(slices.Clone(good), at, api.Bind{Sel: sel, Method: 1})); d != nil || ok {
				t.Errorf("P12.1: Of, %d at %d: %v, %v", sel, at, d, ok)
			}
		}
	}
	five := []api.Bind{{Sel: 3}, {Sel: 19}, {Sel: 35}, {Sel: 51}, {Sel: 67}}
	for _, l := range [][]api.Bind{five, append(slices.Clone(five), good...), append(slices.Clone(good), five...), append(slices.Clone(five), api.Bind{Sel: 3})} {
		if d, ok := dict.Of(l); d != nil || ok {
			t.Errorf("P12.1: Of, five of one place: %v, %v", d, ok)
		}
	}
	var all []api.Bind
	for sel := range places {
		all = append(all, api.Bind{Sel: sel})
	}
	if d, ok := dict.Of(append(all, api.Bind{Sel: 16})); d != nil || ok {
		t.Errorf("P12.1: Of 17 names: %v, %v", d, ok)
	}
}

func TestOfDrawn(t *testing.T) {
	r := rand.New(rand.NewSource(121))
	right := 0
	for range 3000 {
		var l []api.Bind
		for range r.Intn(14) {
			l = append(l, api.Bind{Sel: r.Intn(80), Method: r.Intn(32)})
		}
		p, want := plain{}, true
		for _, b := range l {
			want = want && p.put(b.Sel, b.Method)
		}
		d, ok := dict.Of(l)
		if ok != want || (d != nil) != want {
			t.Fatalf("P12.1: Of(%v): %v, %v, not %v", l, d, ok, want)
		}
		if want {
			right++
			has(t, "Of, drawn", d, p)
		}
	}
	if right < 300 || right > 2900 {
		t.Errorf("of 3000 drawn ones %d are right: too few of one kind", right)
	}
}

// Of neither changes nor keeps what it is given, its spare room included.
func TestOfLeavesItsList(t *testing.T) {
	room := []api.Bind{{Sel: 3, Method: 1}, {Sel: 19, Method: 2}, {Sel: 77, Method: 7}, {Sel: 78, Method: 8}}
	was := slices.Clone(room)
	d, _ := dict.Of(room[:2])
	p := plain{5: {Sel: 3, Method: 1}, 6: {Sel: 19, Method: 2}}
	has(t, "Of of a list with room behind", d, p, 77, 78)
	d.Put(3, 60)
	d.Put(4, 61)
	if !slices.Equal(room, was) {
		t.Errorf("R2: Of, Put: the list became %v", room)
	}
	d, _ = dict.Of(room[:2])
	for i := range room {
		room[i] = api.Bind{Sel: 9, Method: 9}
	}
	has(t, "Of, its list changed behind it", d, p)
	a, _ := dict.Of(was[:2])
	b, _ := dict.Of(was[:2])
	a.Put(3, 90)
	has(t, "two of one list", b, p)
}
