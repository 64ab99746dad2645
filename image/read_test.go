package image_test

import (
	"bytes"
	"encoding/binary"
	"math"
	"math/rand"
	"slices"
	"testing"

	"treadwheel/api"
	"treadwheel/image"
	"treadwheel/unit"
)

// plainRead takes b apart by itself; nothing, if it can not.
func plainRead(b []byte) (u api.Unit) {
	defer func() {
		if recover() != nil {
			u = api.Unit{}
		}
	}()
	at := 4
	number := func() int {
		at += 4
		return int(int32(binary.BigEndian.Uint32(b[at-4:])))
	}
	text := func() string {
		n := number()
		at += n
		return string(b[at-n : at])
	}
	vals := func() (l []api.Val) {
		for range number() {
			l = append(l, api.Val{Kind: number(), N: number()})
		}
		return l
	}
	for range number() {
		u.Names = append(u.Names, text())
	}
	for range number() {
		c := api.Class{Name: text(), Super: number(), Fields: number()}
		for range number() {
			c.Binds = append(c.Binds, api.Bind{Sel: number(), Method: number()})
		}
		u.Classes = append(u.Classes, c)
	}
	for range number() {
		u.Methods = append(u.Methods, api.Method{Args: number(), Temps: number(), Lits: vals(), Code: []byte(text())})
	}
	for range number() {
		u.Objects = append(u.Objects, api.Obj{Class: number(), Fields: vals()})
	}
	u.Main = number()
	return u
}

// read tells t where Read is not the chapter's: of the bytes of a right program that program, of all others a refusal and nothing beside it. It answers whether b was read.
func read(t *testing.T, what string, b []byte) bool {
	t.Helper()
	u := plainRead(b)
	want := api.OK
	if unit.Right(u) != api.OK || !bytes.Equal(plain(u).b, b) {
		u, want = api.Unit{}, api.ErrForm
	}
	if len(b) > 1<<16 {
		u, want = api.Unit{}, api.ErrLong
	}
	ahead := bytes.Clone(b[:cap(b)])
	v, why := image.Read(b)
	if why != want || !unit.Same(u, v) {
		t.Errorf("P16.1: %s: Read of %d bytes: %d, not %d, and %v", what, len(b), why, want, v)
	}
	if !bytes.Equal(b[:cap(b)], ahead) {
		t.Errorf("R2: %s: Read changed what it was given", what)
	}
	return why == api.OK
}

func TestRead(t *testing.T) {
	for _, u := range some() {
		if !read(t, "a right program", plain(u).b) {
			t.Error("P16.1: Read of a right program's bytes: refused")
		}
	}
	for _, b := range [][]byte{nil, {}, []byte("T"), []byte("TW1"), []byte("TW1\x00"), make([]byte, 4), make([]byte, 24)} {
		if _, why := image.Read(b); why != api.ErrForm {
			t.Errorf("P16.1: Read of %q: %d", b, why)
		}
	}
}

func TestReadOfWrongPrograms(t *testing.T) {
	for i, u := range wrong() {
		if read(t, "a wrong program", plain(u).b) {
			t.Errorf("P16.1: wrong program %d was read", i)
		}
	}
}

// Cut off anywhere at its end or at its beginning, or longer: none is an image.
func TestReadCutOrLonger(t *testing.T) {
	for _, u := range append(some()[:2], drawn(rand.New(rand.NewSource(163)))) {
		b := plain(u).b
		for n := range b {
			if read(t, "cut off", b[:n:n]) || n > 0 && read(t, "cut off ahead", b[n:]) {
				t.Fatalf("P16.1: %d of %d bytes were read", n, len(b))
			}
			if read(t, "with the rest in the room", b[:n]) {
				t.Errorf("R5: the room behind %d bytes was read", n)
			}
		}
		for _, more := range []string{"\x00", "\x01", "\xff", "T", "\x00\x00\x00\x00", "\x00\x00\x00\x00\x00\x00\x00\x00", string(b)} {
			if read(t, "longer", slices.Concat(b, []byte(more))) || read(t, "longer ahead", slices.Concat([]byte(more), b)) {
				t.Errorf("P16.1: an image with %q beside it was read", more)
			}
			if !read(t, "more in the room", append(bytes.Clone(b), more...)[:len(b)]) {
				t.Errorf("R5: with %q in the room it was not read", more)
			}
		}
	}
}

// Each byte is made each other one.
func TestReadOtherBytes(t *testing.T) {
	for _, u := range some()[:2] {
		b := plain(u).b
		got := 0
		for i, was := range b {
			for c := range 256 {
				b[i] = byte(c)
				if read(t, "one byte is another", b) {
					got++
				}
			}
			b[i] = was
		}
		if got < len(b) || got > 255*len(b) {
			t.Errorf("one byte is another: %d were read of %d", got, 256*len(b))
		}
	}
}

// Each number is made another, how many there are too: below 0, far more than there are, and such as wrap round.
func TestReadOtherNumbers(t *testing.T) {
	others := []int32{-1, -2, -4, -8, math.MinInt32, math.MinInt32 + 1, math.MaxInt32, math.MaxInt32 - 3, 1 << 30, -1 << 30, -1<<30 - 1, 1 << 29, 1 << 16, 1<<16 - 4, 1 << 24, 1 << 8, 63, 49, 41, 33, 17, 13, 9, 5, 4, 3, 2, 1, 0}
	for _, u := range some()[:2] {
		w := plain(u)
		for _, at := range w.at {
			was := bytes.Clone(w.b[at : at+4])
			for _, n := range others {
				copy(w.b[at:], four(n))
				read(t, "one number is another", w.b)
			}
			for by := -5; by <= 5; by++ {
				copy(w.b[at:], four(int32(binary.BigEndian.Uint32(was))+int32(by)))
				read(t, "one number is some more or less", w.b)
			}
			copy(w.b[at:], was)
		}
	}
}

// Up to 2^16 bytes are looked at, beyond them none.
func TestReadLong(t *testing.T) {
	long := plain(program()).b
	long = append(long, make([]byte, 1<<17)...)
	empty := slices.Concat([]byte("TW1\x00"), []byte(four(1<<14-2)), make([]byte, 1<<17)) // as many names as go in, of no bytes
	for _, n := range []int{1<<16 - 1, 1 << 16, 1<<16 + 1, 1<<16 + 4, 1 << 17} {
		want := api.ErrForm
		if n > 1<<16 {
			want = api.ErrLong
		}
		for _, b := range [][]byte{make([]byte, n), long[:n], empty[:n], bytes.Repeat([]byte("TW1\x00"), n/4+1)[:n], bytes.Repeat([]byte{255}, n)} {
			if v, why := image.Read(b); why != want || !unit.Same(v, api.Unit{}) {
				t.Errorf("P16.1: Read of %d bytes: %d, not %d, and %v", n, why, want, v)
			}
		}
	}
	if _, why := image.Read(make([]byte, 1<<24)); why != api.ErrLong {
		t.Errorf("P16.1: Read of 2^24 bytes: %d", why)
	}
	u := program()
	u.Names = append(u.Names, string(bytes.Repeat([]byte{'n'}, 1<<16)))
	if _, why := image.Read(plain(u).b); why != api.ErrLong {
		t.Errorf("P16.1: Read of a wrong program that is long: %d", why)
	}
	if _, why := image.Read(append(plain(program()).b, make([]byte, 1<<17)...)[:len(plain(program()).b)]); why != api.OK {
		t.Errorf("R5: Read of an image with a long room: %d", why)
	}
}

// Bytes of no order at all, and images of which parts were left out, doubled or exchanged.
func TestReadDrawn(t *testing.T) {
	r := rand.New(rand.NewSource(162))
	all := some()
	got := 0
	for range 20000 {
		w := plain(all[r.Intn(len(all))])
		b := w.b
		for range r.Intn(3) {
			i, j := w.at[r.Intn(len(w.at))], w.at[r.Intn(len(w.at))]
			i, j = min(i, j, len(b)), min(max(i, j), len(b))
			switch r.Intn(5) {
			case 0:
				b = slices.Concat(b[:i], b[j:])
			case 1:
				b = slices.Concat(b[:j], b[i:])
			case 2:
				b = bytes.Clone(b)
				copy(b[i:], b[j:min(j+4, len(b))])
			case 3:
				b = bytes.Clone(b)
				b[r.Intn(len(b))] ^= 1 << r.Intn(8)
			case 4:
				other := plain(all[r.Intn(len(all))])
				b = slices.Concat(b[:i], other.b[other.at[r.Intn(len(other.at))]:])
			}
		}
		if read(t, "drawn", b) {
			got++
		}
	}
	if got < 5000 || got > 15000 {
		t.Errorf("drawn images that were read: %d", got)
	}
	for range 20000 {
		b := append([]byte("TW1\x00"), make([]byte, r.Intn(100))...)
		for i := 4; i < len(b); i++ {
			b[i] = byte(r.Intn(1 << r.Intn(9)))
		}
		read(t, "no image", b)
	}
}

// What is done with the bytes behind the call is nothing to the program, and the other way round; nor is what is done with another answer.
func TestReadIsNew(t *testing.T) {
	want := program()
	b := plain(want).b
	u, _ := image.Read(b)
	v, _ := image.Read(b)
	for i := range b {
		b[i] = 0xaa
	}
	if !unit.Same(u, want) || !unit.Same(v, want) {
		t.Error("R2: what Read answers is changed with what it was given")
	}
	b = plain(want).b
	u, _ = image.Read(b)
	spill(u, -1)
	outer := 0
	fill(&outer, -1, u.Names, "other")
	fill(&outer, -1, u.Classes, api.Class{Name: "other"})
	fill(&outer, -1, u.Methods, api.Method{Args: 84})
	fill(&outer, -1, u.Objects, api.Obj{Class: 85})
	if !bytes.Equal(b, plain(want).b) || !unit.Same(v, want) {
		t.Error("R2: what Read answers shares memory with what it was given, or with another answer")
	}
}

// spill fills the inner lists of u up to their rooms' ends, but for list number spared.
func spill(u api.Unit, spared int) {
	n := 0
	for _, c := range u.Classes {
		fill(&n, spared, c.Binds, api.Bind{Sel: 77, Method: 78})
	}
	for _, m := range u.Methods {
		fill(&n, spared, m.Lits, val(79, 80))
		fill(&n, spared, m.Code, 81)
	}
	for _, o := range u.Objects {
		fill(&n, spared, o.Fields, val(82, 83))
	}
}

// fill is for list number n; the next one is n's next.
func fill[T any](n *int, spared int, l []T, with T) {
	if *n != spared {
		l = l[:cap(l)]
		for i := range l {
			l[i] = with
		}
	}
	*n++
}

// No two lists of one answer share memory: one alone is as it was when all others are filled.
func TestReadSharesNothing(t *testing.T) {
	b := plain(program()).b
	for i := range lists(program()) {
		u, _ := image.Read(b)
		spill(u, i)
		if got, want := lists(u)[i], lists(program())[i]; got != want {
			t.Errorf("R2: list %d of an answer of Read shares memory with another: %q, not %q", i, got, want)
		}
	}
}

// lists are the inner lists of u, each as bytes, in spill's order.
func lists(u api.Unit) []string {
	var l []string
	add := func(one api.Unit) { l = append(l, string(plain(one).b)) }
	for _, c := range u.Classes {
		add(api.Unit{Classes: []api.Class{{Binds: c.Binds}}})
	}
	for _, m := range u.Methods {
		add(api.Unit{Methods: []api.Method{{Lits: m.Lits}}})
		add(api.Unit{Methods: []api.Method{{Code: m.Code}}})
	}
	for _, o := range u.Objects {
		add(api.Unit{Objects: []api.Obj{{Fields: o.Fields}}})
	}
	return l
}
