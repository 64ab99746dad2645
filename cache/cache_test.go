package cache_test

import (
	"math"
	"math/big"
	"math/rand"
	"testing"

	"treadwheel/api"
	"treadwheel/cache"
)

const lines = 32

// wild are numbers at the edges of what a class's or a name's number may be.
var wild = []int{
	math.MinInt, math.MinInt + 1, math.MinInt + 31, math.MinInt/31 - 1, math.MinInt / 31, math.MinInt/31 + 1,
	-1<<32 - 1, -1 << 32, -1 << 31, -65, -64, -33, -32, -31, -2, -1, 0, 1, 2, 11, 30, 31, 32, 33, 47, 63, 64, 961, 992,
	1<<31 - 1, 1 << 31, 1 << 32, 1<<32 + 1, math.MaxInt/31 - 1, math.MaxInt / 31, math.MaxInt/31 + 1, math.MaxInt/31 + 2,
	math.MaxInt / 2, math.MaxInt - 31, math.MaxInt - 1, math.MaxInt,
}

func key(class, sel int) cache.Key { return cache.Key{Class: class, Sel: sel} }

// line is a key's line, reckoned in numbers of any length.
func line(k cache.Key) int {
	n := new(big.Int).Mul(big.NewInt(int64(k.Class)), big.NewInt(31))
	n.Add(n, big.NewInt(int64(k.Sel)))
	return int(n.Mod(n, big.NewInt(lines)).Int64())
}

type entry struct {
	key    cache.Key
	has    bool
	method int
}

// plain is what a cache is, said once more.
type plain struct {
	at           [lines]entry
	hits, misses int
}

func (p *plain) put(k cache.Key, method int) { p.at[line(k)] = entry{k, true, method} }

func (p *plain) get(k cache.Key) (int, bool) {
	if e := p.at[line(k)]; e.has && e.key == k {
		p.hits++
		return e.method, true
	}
	p.misses++
	return -1, false
}

func (p *plain) clear() { p.at = [lines]entry{} }

func (p *plain) len() int {
	n := 0
	for _, e := range p.at {
		if e.has {
			n++
		}
	}
	return n
}

// counts tells t where c's counts are not p's.
func counts(t *testing.T, what string, c *cache.Cache, p *plain) {
	t.Helper()
	if n := c.Len(); n != p.len() {
		t.Fatalf("P13.1: %s: Len: %d, not %d", what, n, p.len())
	}
	if n := c.Hits(); n != p.hits {
		t.Fatalf("P13.1: %s: Hits: %d, not %d", what, n, p.hits)
	}
	if n := c.Misses(); n != p.misses {
		t.Fatalf("P13.1: %s: Misses: %d, not %d", what, n, p.misses)
	}
}

// gets asks both, and tells t where they differ, in their counts too.
func gets(t *testing.T, what string, c *cache.Cache, p *plain, k cache.Key) {
	t.Helper()
	wantMethod, want := p.get(k)
	if method, ok := c.Get(k); method != wantMethod || ok != want {
		t.Fatalf("P13.1: %s: Get(%v): %d, %v, not %d, %v", what, k, method, ok, wantMethod, want)
	}
	counts(t, what, c, p)
}

// same tells t where c is not p: by Get of what each line of p has, of keys that are none's, and of those beside.
func same(t *testing.T, what string, c *cache.Cache, p *plain, beside ...cache.Key) {
	t.Helper()
	counts(t, what, c, p)
	asked := append([]cache.Key{key(0, 0), key(0, 31), key(1, 0), key(-1, -1), key(math.MaxInt, math.MinInt)}, beside...)
	for _, e := range p.at {
		if e.has {
			asked = append(asked, e.key, key(e.key.Class, e.key.Sel^32), key(e.key.Class^32, e.key.Sel), key(e.key.Sel, e.key.Class))
		}
	}
	for _, k := range asked {
		gets(t, what, c, p, k)
	}
}

func TestNew(t *testing.T) {
	c := cache.New()
	if c.Len() != 0 || c.Hits() != 0 || c.Misses() != 0 {
		t.Errorf("P13.1: New: Len %d, Hits %d, Misses %d", c.Len(), c.Hits(), c.Misses())
	}
	if method, ok := c.Get(key(0, 0)); method != -1 || ok {
		t.Errorf("P13.1: New: Get: %d, %v", method, ok)
	}
	if c.Len() != 0 || c.Hits() != 0 || c.Misses() != 1 {
		t.Errorf("P13.1: New, Get: Len %d, Hits %d, Misses %d", c.Len(), c.Hits(), c.Misses())
	}
	c, p := cache.New(), &plain{}
	for _, class := range wild {
		for _, sel := range wild {
			gets(t, "New", c, p, key(class, sel))
		}
	}
}

// The lines by number, so that a fault in the plain cache shows too.
func TestLineByNumber(t *testing.T) {
	for _, w := range []struct{ class, sel, line int }{
		{0, 0, 0}, {0, 1, 1}, {0, 31, 31}, {0, 32, 0}, {0, 47, 15}, {1, 0, 31}, {1, 1, 0}, {2, 0, 30}, {11, 47, 4}, {31, 0, 1}, {32, 0, 0},
		{0, -1, 31}, {-1, 0, 1}, {-1, -1, 0}, {0, -31, 1}, {0, -32, 0}, {0, -33, 31}, {-2, 5, 7}, {3, -100, 25},
		{math.MaxInt, 0, 1}, {0, math.MaxInt, 31}, {math.MaxInt, math.MaxInt, 0}, {math.MaxInt, math.MinInt, 1},
		{math.MinInt, 0, 0}, {0, math.MinInt, 0}, {math.MinInt, math.MaxInt, 31}, {math.MinInt, math.MinInt, 0},
	} {
		k := key(w.class, w.sel)
		if got := line(k); got != w.line {
			t.Fatalf("line(%v): %d", k, got)
		}
		for other := range lines {
			c := cache.New()
			c.Put(k, 7)
			c.Put(key(64, other+64), 9)
			method, ok := c.Get(k)
			if other == w.line && (method != -1 || ok || c.Len() != 1) || other != w.line && (method != 7 || !ok || c.Len() != 2) {
				t.Errorf("P13.1: Put of %v, of one of line %d: Get: %d, %v, Len %d", k, other, method, ok, c.Len())
			}
			if method, ok := c.Get(key(64, other+64)); method != 9 || !ok {
				t.Errorf("P13.1: Put of %v, of one of line %d: Get of the later one: %d, %v", k, other, method, ok)
			}
		}
	}
}

// The later key of two has its line; the earlier one stays, if its line is another one.
func TestEachTwo(t *testing.T) {
	var all []cache.Key
	for class := range 12 {
		for sel := range 48 {
			all = append(all, key(class, sel))
		}
	}
	for _, a := range all {
		for _, b := range all {
			c := cache.New()
			c.Put(a, 1)
			c.Put(b, 2)
			want, n := line(a) != line(b), 2
			if !want {
				n = 1
			}
			method, ok := c.Get(a)
			later, there := c.Get(b)
			if later != 2 || !there || c.Len() != n || a != b && (ok != want || ok && method != 1 || !ok && method != -1) || a == b && (method != 2 || !ok) {
				t.Fatalf("P13.1: Put of %v, %v: Get: %d, %v; %d, %v; Len %d", a, b, method, ok, later, there, c.Len())
			}
		}
	}
}

func TestEachTwoWild(t *testing.T) {
	var all []cache.Key
	for i, class := range wild {
		for j, sel := range wild {
			if (i+j)%3 == 0 {
				all = append(all, key(class, sel))
			}
		}
	}
	for _, a := range all {
		for _, b := range all {
			c, p := cache.New(), &plain{}
			c.Put(a, 1)
			p.put(a, 1)
			c.Put(b, 2)
			p.put(b, 2)
			gets(t, "two", c, p, a)
			gets(t, "two", c, p, b)
		}
	}
}

// Put of a key that is there: the later method, and no line more.
func TestPutTwice(t *testing.T) {
	c, p := cache.New(), &plain{}
	for _, method := range []int{20, 21, 0, -1, 21, math.MaxInt, math.MinInt, 5, 5} {
		c.Put(key(3, 4), method)
		p.put(key(3, 4), method)
		if got, ok := c.Get(key(3, 4)); got != method || !ok {
			t.Errorf("P13.1: Put(.., %d), Get: %d, %v", method, got, ok)
		}
		p.get(key(3, 4))
		same(t, "Put again", c, p)
	}
}

// Keys of one line, of one sum too, are not taken for one another.
func TestOneLine(t *testing.T) {
	row := []cache.Key{key(0, 31), key(1, 0), key(2, -31), key(-1, 62), key(33, 0), key(1, 32), key(0, 63), key(0, -1), key(1<<32+1, 0), key(1, 1<<32), key(1, math.MinInt)}
	for i, a := range row {
		for _, b := range row[i+1:] {
			c, p := cache.New(), &plain{}
			for n, k := range []cache.Key{a, b, a, a, b, b, a} {
				c.Put(k, n)
				p.put(k, n)
				if c.Len() != 1 {
					t.Errorf("P13.1: keys of one line, %v, %v: Len %d", a, b, c.Len())
				}
				same(t, "keys of one line", c, p, row...)
			}
		}
	}
}

// A line that has nothing is not taken for one that has the key of noughts.
func TestKeyOfNoughts(t *testing.T) {
	c, p := cache.New(), &plain{}
	c.Put(key(0, 0), 5)
	p.put(key(0, 0), 5)
	for i := 1; i < lines; i++ {
		c.Put(key(0, i), i)
		p.put(key(0, i), i)
		same(t, "the key of noughts first", c, p)
	}
	c, p = cache.New(), &plain{}
	for i := lines - 1; i >= 0; i-- {
		gets(t, "the key of noughts not yet", c, p, key(0, 0))
		c.Put(key(i, 0), i)
		p.put(key(i, 0), i)
		same(t, "the key of noughts last", c, p)
	}
}

func TestFull(t *testing.T) {
	c, p := cache.New(), &plain{}
	for round := range 3 {
		for i := range lines {
			k := key(round+i%5, i*7+100*round)
			c.Put(k, i+40*round)
			p.put(k, i+40*round)
			same(t, "up to full", c, p)
		}
	}
	for i := range lines {
		c.Put(key(0, i), -i)
		p.put(key(0, i), -i)
		same(t, "up to full, each line", c, p)
	}
	if c.Len() != api.CacheSize || api.CacheSize != lines {
		t.Errorf("P13.1: each line has one: Len %d", c.Len())
	}
	for class := range 12 {
		for sel := range 48 {
			c.Put(key(class, sel), class+sel)
			p.put(key(class, sel), class+sel)
			same(t, "full", c, p, key(0, sel), key(class, 0))
		}
	}
}

func TestClear(t *testing.T) {
	c, p := cache.New(), &plain{}
	for round := range 4 {
		c.Clear()
		p.clear()
		if c.Len() != 0 {
			t.Errorf("P13.1: Clear: Len %d", c.Len())
		}
		var beside []cache.Key
		for i := range 40 * round {
			k := key(i%12, i%48)
			beside = append(beside, k)
			c.Put(k, i)
			p.put(k, i)
		}
		same(t, "Put behind Clear", c, p, beside...)
		c.Clear()
		p.clear()
		same(t, "Clear", c, p, beside...)
		c.Clear()
		p.clear()
		same(t, "Clear again", c, p, beside...)
	}
	if c.Hits() == 0 || c.Misses() == 0 {
		t.Errorf("P13.1: Clear: Hits %d, Misses %d", c.Hits(), c.Misses())
	}
}

// Get alone counts: a hit or a miss each time, of the same key too.
func TestCounts(t *testing.T) {
	c := cache.New()
	told := func(what string, hits, misses int) {
		t.Helper()
		if c.Hits() != hits || c.Misses() != misses {
			t.Errorf("P13.1: %s: Hits %d, Misses %d, not %d, %d", what, c.Hits(), c.Misses(), hits, misses)
		}
	}
	c.Put(key(2, 3), 1)
	c.Put(key(2, 35), 2)
	c.Put(key(2, 3), 3)
	c.Len()
	told("Put", 0, 0)
	for i := range 5 {
		c.Get(key(2, 3))
		told("Get of one that is there", i+1, i)
		c.Get(key(2, 35))
		told("Get of one that was", i+1, i+1)
	}
	c.Clear()
	told("Clear", 5, 5)
	c.Get(key(2, 3))
	told("Get behind Clear", 5, 6)
	c.Put(key(2, 3), -1)
	told("Put behind Clear", 5, 6)
	if method, ok := c.Get(key(2, 3)); method != -1 || !ok {
		t.Errorf("P13.1: Get of a method of -1: %d, %v", method, ok)
	}
	told("Get of a method of -1", 6, 6)
}

func TestTwoCaches(t *testing.T) {
	a, b, p := cache.New(), cache.New(), &plain{}
	for i := range 2 * lines {
		a.Put(key(i%3, i), i)
		p.put(key(i%3, i), i)
	}
	same(t, "the full one", a, p)
	same(t, "the other one", b, &plain{})
	b.Clear()
	same(t, "the full one beside one that was cleared", a, p)
	a.Clear()
	p.clear()
	c := cache.New()
	c.Put(key(0, 5), 6)
	same(t, "the one that was full", a, p, key(0, 5))
}

// Long walks of calls are held against plain lines, on keys that a program has and on wild ones.
func TestDrawn(t *testing.T) {
	r := rand.New(rand.NewSource(13))
	far := func() int { return wild[r.Intn(len(wild))] + r.Intn(3) }
	for run := range 300 {
		c, p := cache.New(), &plain{}
		var put []cache.Key
		draw := func() cache.Key {
			switch {
			case len(put) > 0 && r.Intn(3) == 0:
				return put[r.Intn(len(put))]
			case run%3 == 0:
				return key(far(), far())
			}
			return key(r.Intn(12), r.Intn(48))
		}
		for range 300 {
			k := draw()
			switch kind := r.Intn(60); {
			case kind == 0:
				c.Clear()
				p.clear()
			case kind <= 20:
				method := r.Intn(34) - 1
				c.Put(k, method)
				p.put(k, method)
				put = append(put, k)
				counts(t, "drawn, Put", c, p)
			default:
				gets(t, "drawn", c, p, k)
			}
		}
		same(t, "the walk's end", c, p, put...)
	}
}
