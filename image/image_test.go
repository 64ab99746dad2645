package image_test

import (
	"bytes"
	"encoding/binary"
	"math"
	"math/rand"
	"slices"
	"strconv"
	"strings"
	"testing"

	"treadwheel/api"
	"treadwheel/image"
	"treadwheel/unit"
)

func val(kind, n int) api.Val { return api.Val{Kind: kind, N: n} }

// program is a right one, with something of each kind in it, and empty lists too.
func program() api.Unit {
	return api.Unit{
		Names: []string{"main", "at:", "at:put:", "+", "<="},
		Classes: []api.Class{
			{Name: "Block", Super: -1, Fields: 4, Binds: []api.Bind{{Sel: 0, Method: 3}}},
			{Name: "Array", Super: -1, Binds: []api.Bind{{Sel: 1, Method: 1}, {Sel: 2, Method: 2}}},
			{Name: "\x00 \xff-", Super: -1, Fields: 2},
			{Name: "Triple", Super: 2, Fields: 3, Binds: []api.Bind{{Sel: 4, Method: 1}}},
		},
		Methods: []api.Method{
			{Code: []byte{14, 0}},
			{Args: 1, Temps: 2, Lits: []api.Val{val(3, 5), val(5, 1)}, Code: []byte{0, 0, 10, 2, 8, 0, 7, 255, 14, 0}},
			{Args: 2, Lits: []api.Val{val(5, 2), val(6, 3), val(7, 0), val(3, -1<<30)}, Code: []byte{18, 2, 8, 0, 20, 1, 12, 0, 14, 0}},
			{Temps: 1, Code: []byte{3, 0, 17, 1, 15, 0, 16, 0}},
		},
		Objects: []api.Obj{
			{Class: 2, Fields: []api.Val{val(4, 1), val(0, 0)}},
			{Class: 3, Fields: []api.Val{val(1, 0), val(2, 0), val(3, -7)}},
			{Class: 1, Fields: []api.Val{val(4, 0), val(3, -1<<30), val(3, 1<<30-1)}},
			{Class: 1},
		},
		Main: 3,
	}
}

// greatest is a right program that has as much of everything as may be.
func greatest() api.Unit {
	u := api.Unit{Main: 31}
	for i := range 48 {
		u.Names = append(u.Names, "n"+strconv.Itoa(10+i)+strings.Repeat("o", 13))
	}
	for i := range 12 {
		c := api.Class{Name: strings.Repeat("C", 14) + strconv.Itoa(10+i), Super: i - 1, Fields: 62}
		if i < 2 || i%8 == 2 { // as deep as may be: class 9 is the eighth
			c.Super = -1
		}
		for sel := range 16 {
			c.Binds = append(c.Binds, api.Bind{Sel: 47 - sel, Method: sel})
		}
		u.Classes = append(u.Classes, c)
	}
	u.Classes[0].Fields, u.Classes[1].Fields = 4, 0
	for i := range 32 {
		m := api.Method{Temps: 8, Lits: make([]api.Val, 16), Code: bytes.Repeat([]byte{7, byte(i)}, 64)}
		for j := range m.Lits {
			m.Lits[j] = val(3, i*j-1<<30)
		}
		m.Code[126] = 14
		u.Methods = append(u.Methods, m)
	}
	for i := range 40 {
		o := api.Obj{Class: 1 + i%11, Fields: make([]api.Val, 62)}
		for j := range o.Fields {
			o.Fields[j] = val(4, (i+j)%40)
		}
		u.Objects = append(u.Objects, o)
	}
	return u
}

// writer writes any unit, right or wrong, and keeps where its numbers are.
type writer struct {
	b  []byte
	at []int
}

func (w *writer) number(l ...int) {
	for _, n := range l {
		w.at = append(w.at, len(w.b))
		w.b = binary.BigEndian.AppendUint32(w.b, uint32(int32(n)))
	}
}

func (w *writer) bytes(s string) {
	w.number(len(s))
	w.b = append(w.b, s...)
}

func (w *writer) vals(l []api.Val) {
	w.number(len(l))
	for _, v := range l {
		w.number(v.Kind, v.N)
	}
}

func plain(u api.Unit) *writer {
	w := &writer{b: []byte{'T', 'W', '1', 0}}
	w.number(len(u.Names))
	for _, s := range u.Names {
		w.bytes(s)
	}
	w.number(len(u.Classes))
	for _, c := range u.Classes {
		w.bytes(c.Name)
		w.number(c.Super, c.Fields, len(c.Binds))
		for _, b := range c.Binds {
			w.number(b.Sel, b.Method)
		}
	}
	w.number(len(u.Methods))
	for _, m := range u.Methods {
		w.number(m.Args, m.Temps)
		w.vals(m.Lits)
		w.bytes(string(m.Code))
	}
	w.number(len(u.Objects))
	for _, o := range u.Objects {
		w.number(o.Class)
		w.vals(o.Fields)
	}
	w.number(u.Main)
	return w
}

// some are right programs.
func some() []api.Unit {
	least := api.Unit{
		Classes: []api.Class{{Name: "B", Super: -1, Fields: 4}, {Name: "A", Super: -1}},
		Methods: []api.Method{{Code: []byte{14, 0}}},
		Objects: []api.Obj{{Class: 1}},
	}
	l := []api.Unit{least, program(), greatest(), rooms(program())}
	r := rand.New(rand.NewSource(161))
	for range 300 {
		l = append(l, drawn(r))
	}
	return l
}

// drawn is a right program.
func drawn(r *rand.Rand) api.Unit {
	u := api.Unit{Classes: []api.Class{{Name: "B", Super: -1, Fields: 4}, {Name: "A", Super: -1}}}
	for i := range r.Intn(49) {
		u.Names = append(u.Names, "n"+strconv.Itoa(i)+strings.Repeat("o", r.Intn(14)))
	}
	for range 1 + r.Intn(32) {
		m := api.Method{Temps: r.Intn(9), Code: bytes.Repeat([]byte{7, byte(r.Int())}, r.Intn(64))}
		for range r.Intn(17) {
			m.Lits = append(m.Lits, val(3, r.Intn(1<<31)-1<<30))
		}
		m.Code = append(m.Code, 14, byte(r.Int()))
		u.Methods = append(u.Methods, m)
	}
	u.Main = r.Intn(len(u.Methods))
	for i := range r.Intn(11) {
		c := api.Class{Name: strconv.Itoa(i) + strings.Repeat("\x80", r.Intn(15)), Super: r.Intn(3) - 1, Fields: 4 + r.Intn(59)}
		for _, sel := range r.Perm(len(u.Names))[:min(len(u.Names), r.Intn(5))] {
			c.Binds = append(c.Binds, api.Bind{Sel: sel, Method: r.Intn(len(u.Methods))})
		}
		u.Classes = append(u.Classes, c)
	}
	many := 1 + r.Intn(40)
	for range many {
		o := api.Obj{Class: 1 + r.Intn(len(u.Classes)-1)}
		n := u.Classes[o.Class].Fields
		if o.Class == 1 {
			n = r.Intn(63)
		}
		for range n {
			o.Fields = append(o.Fields, []api.Val{{}, val(1, 0), val(2, 0), val(3, r.Intn(1<<31)-1<<30), val(4, r.Intn(many))}[r.Intn(5)])
		}
		u.Objects = append(u.Objects, o)
	}
	return u
}

// rooms is u with room behind each of its lists, and something in it.
func rooms(u api.Unit) api.Unit {
	u = unit.Copy(u)
	for i := range u.Classes {
		u.Classes[i].Binds = room(u.Classes[i].Binds, api.Bind{Sel: 1, Method: 1})
	}
	for i := range u.Methods {
		u.Methods[i].Lits = room(u.Methods[i].Lits, val(3, 9))
		u.Methods[i].Code = room(u.Methods[i].Code, 14)
	}
	for i := range u.Objects {
		u.Objects[i].Fields = room(u.Objects[i].Fields, val(1, 0))
	}
	u.Names = room(u.Names, "more")
	u.Classes = room(u.Classes, api.Class{Name: "More", Super: -1})
	u.Methods = room(u.Methods, api.Method{Code: []byte{14, 0}})
	u.Objects = room(u.Objects, api.Obj{Class: 1})
	return u
}

func room[T any](l []T, one T) []T {
	return append(slices.Clone(l), one, one)[:len(l)]
}

// full is a copy of u in which each list has what was in its room, too.
func full(u api.Unit) api.Unit {
	u.Names = u.Names[:cap(u.Names)]
	u.Classes = slices.Clone(u.Classes[:cap(u.Classes)])
	for i, c := range u.Classes {
		u.Classes[i].Binds = c.Binds[:cap(c.Binds)]
	}
	u.Methods = slices.Clone(u.Methods[:cap(u.Methods)])
	for i, m := range u.Methods {
		u.Methods[i].Lits, u.Methods[i].Code = m.Lits[:cap(m.Lits)], m.Code[:cap(m.Code)]
	}
	u.Objects = slices.Clone(u.Objects[:cap(u.Objects)])
	for i, o := range u.Objects {
		u.Objects[i].Fields = o.Fields[:cap(o.Fields)]
	}
	return unit.Copy(u)
}

// four are the four bytes of a number.
func four(n int32) string { return string(binary.BigEndian.AppendUint32(nil, uint32(n))) }

// Each byte of a small program, written down one by one.
func TestBytesByHand(t *testing.T) {
	u := api.Unit{
		Names:   []string{"go", "at:put:"},
		Classes: []api.Class{{Name: "B", Super: -1, Fields: 4}, {Name: "Arr", Super: -1, Binds: []api.Bind{{Sel: 1, Method: 1}, {Sel: 0, Method: 0}}}},
		Methods: []api.Method{{Temps: 7, Code: []byte{7, 254, 14, 0}}, {Args: 2, Temps: 1, Lits: []api.Val{{Kind: 3, N: -258}, {Kind: 5, N: 1}}, Code: []byte{14, 255}}},
		Objects: []api.Obj{{Class: 1, Fields: []api.Val{{Kind: 4, N: 1}, {}, {Kind: 3, N: 0x12345678}, {Kind: 2}}}, {Class: 1}},
	}
	want := "TW1\x00" +
		"\x00\x00\x00\x02" + "\x00\x00\x00\x02go" + "\x00\x00\x00\x07at:put:" +
		"\x00\x00\x00\x02" + "\x00\x00\x00\x01B" + "\xff\xff\xff\xff" + "\x00\x00\x00\x04" + "\x00\x00\x00\x00" +
		"\x00\x00\x00\x03Arr" + "\xff\xff\xff\xff" + "\x00\x00\x00\x00" + "\x00\x00\x00\x02" + "\x00\x00\x00\x01\x00\x00\x00\x01" + "\x00\x00\x00\x00\x00\x00\x00\x00" +
		"\x00\x00\x00\x02" + "\x00\x00\x00\x00" + "\x00\x00\x00\x07" + "\x00\x00\x00\x00" + "\x00\x00\x00\x04\x07\xfe\x0e\x00" +
		"\x00\x00\x00\x02" + "\x00\x00\x00\x01" + "\x00\x00\x00\x02" + "\x00\x00\x00\x03\xff\xff\xfe\xfe" + "\x00\x00\x00\x05\x00\x00\x00\x01" + "\x00\x00\x00\x02\x0e\xff" +
		"\x00\x00\x00\x02" + "\x00\x00\x00\x01" + "\x00\x00\x00\x04" + "\x00\x00\x00\x04\x00\x00\x00\x01" + "\x00\x00\x00\x00\x00\x00\x00\x00" + "\x00\x00\x00\x03\x12\x34\x56\x78" + "\x00\x00\x00\x02\x00\x00\x00\x00" +
		"\x00\x00\x00\x01" + "\x00\x00\x00\x00" +
		"\x00\x00\x00\x00"
	b, why := image.Bytes(u)
	if why != api.OK || string(b) != want {
		t.Errorf("P16.1: Bytes: %d, %q, not %q", why, b, want)
	}
	v, why := image.Read([]byte(want))
	if why != api.OK || !unit.Same(u, v) {
		t.Errorf("P16.1: Read: %d, %v, not %v", why, v, u)
	}
	if n := image.Size(u); n != len(want) {
		t.Errorf("P16.1: Size: %d, not %d", n, len(want))
	}
}

func TestBytes(t *testing.T) {
	for _, u := range some() {
		want := plain(u).b
		ahead := full(u)
		b, why := image.Bytes(u)
		if why != api.OK || !bytes.Equal(b, want) {
			t.Fatalf("P16.1: Bytes of %v: %d, %q, not %q", u, why, b, want)
		}
		if n := image.Size(u); n != len(want) {
			t.Errorf("P16.1: Size: %d, not %d", n, len(want))
		}
		v, why := image.Read(b)
		if why != api.OK || !unit.Same(u, v) {
			t.Errorf("P16.2: Read of Bytes: %d, %v, not %v", why, v, u)
		}
		if !unit.Same(full(u), ahead) {
			t.Error("R2: Bytes or Size changed what it was given")
		}
	}
	if n := image.Size(greatest()); n != 4+4+48*20+4+12*(4+16+12+16*8)+4+32*(16+16*8+128)+4+40*(8+62*8)+4 {
		t.Errorf("P16.1: Size of the greatest program: %d", n)
	}
}

// Empty lists are written as none.
func TestBytesOfEmptyLists(t *testing.T) {
	u, v := program(), program()
	u.Names, v.Names = nil, []string{}
	for i := range v.Classes {
		u.Classes[i].Binds, v.Classes[i].Binds = nil, []api.Bind{}
	}
	for i := range v.Methods {
		u.Methods[i] = api.Method{Code: []byte{14, 0}}
		v.Methods[i] = api.Method{Code: []byte{14, 0}, Lits: []api.Val{}}
	}
	u.Objects[3].Fields, v.Objects[3].Fields = nil, []api.Val{}
	a, why := image.Bytes(u)
	b, whyToo := image.Bytes(v)
	if why != api.OK || whyToo != api.OK || !bytes.Equal(a, b) {
		t.Errorf("R4: Bytes of empty lists and of none: %d, %d, %q, %q", why, whyToo, a, b)
	}
}

// numbersOf are the places of all numbers in u.
func numbersOf(u *api.Unit) []*int {
	l := []*int{&u.Main}
	for i := range u.Classes {
		c := &u.Classes[i]
		l = append(l, &c.Super, &c.Fields)
		for j := range c.Binds {
			l = append(l, &c.Binds[j].Sel, &c.Binds[j].Method)
		}
	}
	vals := func(v []api.Val) {
		for i := range v {
			l = append(l, &v[i].Kind, &v[i].N)
		}
	}
	for i := range u.Methods {
		m := &u.Methods[i]
		l = append(l, &m.Args, &m.Temps)
		vals(m.Lits)
	}
	for i := range u.Objects {
		l = append(l, &u.Objects[i].Class)
		vals(u.Objects[i].Fields)
	}
	return l
}

// wrong are units that are not right, one or more for each refusal.
func wrong() []api.Unit {
	l := []api.Unit{{}, {Main: -1}, {Names: []string{}, Classes: []api.Class{}, Methods: []api.Method{}, Objects: []api.Obj{}}}
	for _, spoil := range []func(u *api.Unit){
		func(u *api.Unit) { u.Names = append(u.Names, make([]string, 44)...) },
		func(u *api.Unit) { u.Names = append(u.Names, "no name") },
		func(u *api.Unit) { u.Names = append(u.Names, "") },
		func(u *api.Unit) { u.Names = append(u.Names, strings.Repeat("n", 17)) },
		func(u *api.Unit) { u.Names = append(u.Names, strings.Repeat("n", 1<<14)) },
		func(u *api.Unit) { u.Names = append(u.Names, "main") },
		func(u *api.Unit) { u.Classes = u.Classes[:1] },
		func(u *api.Unit) { u.Classes = nil },
		func(u *api.Unit) { u.Classes = append(u.Classes, make([]api.Class, 9)...) },
		func(u *api.Unit) { u.Classes[3].Name = "" },
		func(u *api.Unit) { u.Classes[3].Name = "Array" },
		func(u *api.Unit) { u.Classes[3].Fields = 1 },
		func(u *api.Unit) { u.Classes[0].Super = -2 },
		func(u *api.Unit) { u.Classes[2].Binds = make([]api.Bind, 17) },
		func(u *api.Unit) { u.Classes[2].Binds = []api.Bind{{Sel: 5, Method: 0}} },
		func(u *api.Unit) { u.Classes[2].Binds = []api.Bind{{Sel: 0, Method: 1}} },
		func(u *api.Unit) { u.Methods = nil },
		func(u *api.Unit) { u.Methods = append(u.Methods, slices.Repeat(u.Methods[:1], 29)...) },
		func(u *api.Unit) { u.Methods[0].Temps = 9 },
		func(u *api.Unit) { u.Methods[0].Lits = slices.Repeat([]api.Val{{Kind: 3}}, 17) },
		func(u *api.Unit) { u.Methods[0].Lits = []api.Val{{}} },
		func(u *api.Unit) { u.Methods[0].Code = slices.Repeat(u.Methods[0].Code, 65) },
		func(u *api.Unit) { u.Methods[0].Code = nil },
		func(u *api.Unit) { u.Methods[0].Code = []byte{14} },
		func(u *api.Unit) { u.Objects = nil },
		func(u *api.Unit) { u.Objects = append(u.Objects, slices.Repeat(u.Objects[3:], 37)...) },
		func(u *api.Unit) { u.Objects[3].Class = 0 },
		func(u *api.Unit) { u.Objects[3].Fields = make([]api.Val, 63) },
		func(u *api.Unit) { u.Objects[0].Fields = u.Objects[0].Fields[:1] },
		func(u *api.Unit) { u.Objects[0].Fields[0].N = 4 },
		func(u *api.Unit) { u.Main = 1 },
		func(u *api.Unit) { u.Main = 4 },
	} {
		u := program()
		spoil(&u)
		l = append(l, u)
	}
	many := program()
	for i := range numbersOf(&many) {
		for _, n := range []int{1 << 30, -1<<30 - 1, math.MinInt32, math.MaxInt32} {
			u := program()
			*numbersOf(&u)[i] = n
			l = append(l, u)
		}
	}
	return l
}

func TestBytesOfWrongPrograms(t *testing.T) {
	told := map[api.Errno]int{}
	refused := func(u api.Unit) {
		t.Helper()
		want := unit.Right(u)
		told[want]++
		b, why := image.Bytes(u)
		if why != want || len(b) > 0 {
			t.Errorf("P16.1: Bytes of a wrong program: %d, not %d, with %d bytes", why, want, len(b))
		}
		if n := image.Size(u); n != 0 {
			t.Errorf("P16.1: Size of a wrong program: %d", n)
		}
	}
	for _, u := range wrong() {
		refused(u)
	}
	all := program()
	for i := range numbersOf(&all) {
		for _, by := range []int{1 << 32, -1 << 32, 1 << 40, math.MinInt} { // what is written of these in four bytes would be right
			u := program()
			*numbersOf(&u)[i] += by
			refused(u)
		}
	}
	if told[api.OK] > 0 {
		t.Errorf("right programs among the wrong ones: %d", told[api.OK])
	}
	for _, why := range []api.Errno{api.ErrLong, api.ErrForm, api.ErrName, api.ErrClass, api.ErrMethod, api.ErrObject} {
		if told[why] == 0 {
			t.Errorf("no program that is refused by %d", why)
		}
	}
}

// An answer is new each time: what is done with one, its room too, changes neither the next one nor the program.
func TestBytesIsNew(t *testing.T) {
	u := rooms(program())
	ahead, want := full(u), plain(u).b
	a, _ := image.Bytes(u)
	b, _ := image.Bytes(u)
	a = a[:cap(a)]
	for i := range a {
		a[i] = 0xaa
	}
	if c, _ := image.Bytes(u); !bytes.Equal(b, want) || !bytes.Equal(c, want) {
		t.Error("R2: two answers of Bytes share memory")
	}
	if !unit.Same(full(u), ahead) {
		t.Error("R2: an answer of Bytes shares memory with what it was given")
	}
}
