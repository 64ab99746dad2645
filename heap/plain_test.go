package heap_test

import (
	"math"
	"slices"
	"testing"

	"treadwheel/api"
	"treadwheel/heap"
)

// The colors, as the chapter of mills has them.
const (
	free = iota
	black
	grey
	ecru
)

const (
	nilWord = uint32(2)
	firstID = 4
)

// wordsOf are the words of each size's cells.
var wordsOf = [api.Sizes]int{4, 8, 16, 32, 64}

// wrong are numbers that are no object's identity, whatever was given.
var wrong = []int{
	math.MinInt, math.MinInt + 4, -1 << 32, 4 - 1<<32, -1024, -5, -4, -1, 0, 1, 2, 3,
	1024, 1025, 1028, 2048, 65540, 1 << 31, 1 << 32, 1<<32 + 4, 1 << 62, math.MaxInt,
}

// odd are words that lead to no object, whatever was given.
var odd = []uint32{
	0, 1, 2, 3, 4, 5, 6, 7, 9, 11, 13, 255, 2047, 2048, 2049, 2050, 2056, 65537, 1 << 20, 1<<30 - 1, 1 << 30, 1<<31 - 1, 1 << 31,
	1<<31 + 8, 1<<31 + 9, 1<<32 - 8, 1<<32 - 4, 1<<32 - 2, 1<<32 - 1,
}

func oop(id int) uint32 { return uint32(id * 2) }

// spot is where a cell is.
type spot struct{ size, cell int }

type object struct {
	class  int
	fields []uint32
}

// plain is a memory as the chapter tells it, in plain rows, which the heap is held against.
type plain struct {
	rows [api.Sizes][4][]int // the cells of each size and color, in order
	at   map[int]spot
	in   map[spot]object
}

func newPlain(cells [api.Sizes]int) *plain {
	m := &plain{at: map[int]spot{}, in: map[spot]object{}}
	for size, n := range cells {
		for i := range n {
			m.rows[size][free] = append(m.rows[size][free], i)
		}
	}
	return m
}

func (m *plain) turn(size, from, to int) int {
	rows := &m.rows[size]
	if len(rows[from]) == 0 {
		return -1
	}
	i := rows[from][0]
	rows[from] = slices.Clone(rows[from][1:])
	rows[to] = append(rows[to], i)
	return i
}

func (m *plain) alloc(class, fields int) int {
	if class < 0 || class > 4095 || fields < 0 || fields > 62 {
		return -1
	}
	size := 0
	for wordsOf[size] < fields+2 {
		size++
	}
	id := firstID
	for _, taken := m.at[id]; taken; _, taken = m.at[id] {
		id++
	}
	if id > 1023 {
		return -1
	}
	cell := m.turn(size, free, black)
	if cell < 0 {
		return -1
	}
	o := object{class: class}
	for range fields {
		o.fields = append(o.fields, nilWord)
	}
	m.at[id] = spot{size, cell}
	m.in[spot{size, cell}] = o
	return id
}

func (m *plain) get(id, i int) (uint32, bool) {
	p, ok := m.at[id]
	if !ok || i < 0 || i >= len(m.in[p].fields) {
		return 0, false
	}
	return m.in[p].fields[i], true
}

func (m *plain) color(id int) int {
	p, ok := m.at[id]
	if !ok {
		return -1
	}
	return m.colorAt(p)
}

func (m *plain) colorAt(p spot) int {
	for color, row := range m.rows[p.size] {
		if slices.Contains(row, p.cell) {
			return color
		}
	}
	return -1
}

func (m *plain) shade(p spot) {
	rows := &m.rows[p.size]
	if i := slices.Index(rows[ecru], p.cell); i >= 0 {
		rows[ecru] = slices.Concat(rows[ecru][:i], rows[ecru][i+1:])
		rows[grey] = append(rows[grey], p.cell)
	}
}

func (m *plain) shadeWord(w uint32) {
	if w%2 == 0 {
		if p, ok := m.at[int(w/2)]; ok {
			m.shade(p)
		}
	}
}

func (m *plain) put(id, i int, w uint32) bool {
	if _, ok := m.get(id, i); !ok || w == 0 {
		return false
	}
	m.in[m.at[id]].fields[i] = w
	if m.color(id) == black {
		m.shadeWord(w)
	}
	return true
}

func (m *plain) swap(a, b int) bool {
	p, ok := m.at[a]
	q, both := m.at[b]
	if !ok || !both {
		return false
	}
	m.at[a], m.at[b] = q, p
	pc, qc := m.colorAt(p), m.colorAt(q)
	if pc == ecru && qc != ecru {
		m.shade(p)
	}
	if qc == ecru && pc != ecru {
		m.shade(q)
	}
	return true
}

func (m *plain) hold(roots []uint32) {
	for _, w := range roots {
		m.shadeWord(w)
	}
}

// leastGrey answers the least size that has a Grey cell; -1, if none has.
func (m *plain) leastGrey() int {
	for size := range m.rows {
		if len(m.rows[size][grey]) > 0 {
			return size
		}
	}
	return -1
}

func (m *plain) scan(words int) int {
	done := 0
	for done < words && done < 1<<20 {
		size := m.leastGrey()
		if size < 0 {
			break
		}
		cell := m.turn(size, grey, black)
		for _, w := range m.in[spot{size, cell}].fields {
			m.shadeWord(w)
		}
		done += wordsOf[size]
	}
	return done
}

func (m *plain) flip() int {
	if m.leastGrey() >= 0 {
		return -1
	}
	freed := 0
	for id, p := range m.at {
		if m.colorAt(p) == ecru {
			delete(m.at, id)
			delete(m.in, p)
			freed++
		}
	}
	for size := range m.rows {
		rows := &m.rows[size]
		rows[free] = slices.Concat(rows[free], rows[ecru])
		rows[ecru], rows[black] = rows[black], nil
	}
	return freed
}

func (m *plain) ids() []int {
	var ids []int
	for id := range m.at {
		ids = append(ids, id)
	}
	slices.Sort(ids)
	return ids
}

// reached answers the identities that are reached from the roots.
func (m *plain) reached(roots []uint32) map[int]bool {
	met := map[int]bool{}
	work := slices.Clone(roots)
	for len(work) > 0 {
		w := work[len(work)-1]
		work = work[:len(work)-1]
		p, ok := m.at[int(w/2)]
		if w%2 == 1 || !ok || met[int(w/2)] {
			continue
		}
		met[int(w/2)] = true
		work = append(work, m.in[p].fields...)
	}
	return met
}

// both is a heap and the plain memory that it is held against: each call is made of both.
type both struct {
	t *testing.T
	h *heap.Heap
	m *plain
}

func newBoth(t *testing.T, cells [api.Sizes]int) *both {
	t.Helper()
	h := heap.New(api.Config{Cells: cells, Pace: 1})
	if h == nil {
		t.Fatalf("P9.1: New of %v: nil", cells)
	}
	b := &both{t, h, newPlain(cells)}
	b.same("New")
	return b
}

func (b *both) alloc(class, fields int) int {
	b.t.Helper()
	got, want := b.h.Alloc(class, fields), b.m.alloc(class, fields)
	if got != want {
		b.t.Fatalf("P9.1: Alloc(%d, %d): %d, not %d", class, fields, got, want)
	}
	return got
}

func (b *both) put(id, i int, w uint32) {
	b.t.Helper()
	if got, want := b.h.Put(id, i, w), b.m.put(id, i, w); got != want {
		b.t.Fatalf("P9.1: Put(%d, %d, %#x): %v, not %v", id, i, w, got, want)
	}
}

func (b *both) get(id, i int) uint32 {
	b.t.Helper()
	got, ok := b.h.Get(id, i)
	want, has := b.m.get(id, i)
	if got != want || ok != has {
		b.t.Fatalf("P9.1: Get(%d, %d): %#x, %v, not %#x, %v", id, i, got, ok, want, has)
	}
	return got
}

func (b *both) swap(x, y int) {
	b.t.Helper()
	if got, want := b.h.Swap(x, y), b.m.swap(x, y); got != want {
		b.t.Fatalf("P9.1: Swap(%d, %d): %v, not %v", x, y, got, want)
	}
}

func (b *both) hold(roots ...uint32) {
	b.h.Hold(roots)
	b.m.hold(roots)
}

func (b *both) scan(words int) int {
	b.t.Helper()
	got, want := b.h.Scan(words), b.m.scan(words)
	if got != want {
		b.t.Fatalf("P9.2: Scan(%d): %d, not %d", words, got, want)
	}
	return got
}

func (b *both) flip() int {
	b.t.Helper()
	got, want := b.h.Flip(), b.m.flip()
	if got != want {
		b.t.Fatalf("P9.2: Flip: %d, not %d", got, want)
	}
	return got
}

// colors tells t where what is told of colors is not the same.
func (b *both) colors(what string) {
	b.t.Helper()
	if got, want := b.h.IDs(), b.m.ids(); !slices.Equal(got, want) {
		b.t.Fatalf("P9.2: %s: IDs: %v, not %v", what, got, want)
	}
	for _, id := range b.m.ids() {
		if got, want := b.h.Color(id), b.m.color(id); got != want {
			b.t.Fatalf("P9.2: %s: Color(%d): %d, not %d", what, id, got, want)
		}
	}
	if got, want := b.h.Done(), b.m.leastGrey() < 0; got != want {
		b.t.Fatalf("P9.2: %s: Done: %v, not %v", what, got, want)
	}
}

// same tells t where anything that is told is not the same.
func (b *both) same(what string) {
	b.t.Helper()
	b.colors(what)
	for _, id := range b.m.ids() {
		o := b.m.in[b.m.at[id]]
		if got := b.h.Class(id); got != o.class {
			b.t.Fatalf("P9.1: %s: Class(%d): %d, not %d", what, id, got, o.class)
		}
		if got := b.h.Fields(id); got != len(o.fields) {
			b.t.Fatalf("P9.1: %s: Fields(%d): %d, not %d", what, id, got, len(o.fields))
		}
		for i := -1; i <= len(o.fields); i++ {
			b.get(id, i)
		}
	}
}

// none tells t where anything is told of an identity that is not there.
func (b *both) none(what string, id int) {
	b.t.Helper()
	if c, f, color := b.h.Class(id), b.h.Fields(id), b.h.Color(id); c != -1 || f != -1 || color != -1 {
		b.t.Errorf("P9.1: %s: Class, Fields, Color(%d): %d, %d, %d", what, id, c, f, color)
	}
	for _, i := range []int{-1, 0, 1, 61, 62} {
		if w, ok := b.h.Get(id, i); w != 0 || ok {
			b.t.Errorf("P9.1: %s: Get(%d, %d): %#x, %v", what, id, i, w, ok)
		}
		if b.h.Put(id, i, 9) {
			b.t.Errorf("P9.1: %s: Put(%d, %d, 9): true", what, id, i)
		}
	}
}
