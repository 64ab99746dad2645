package image

import "treadwheel/api"

// reader takes an image apart from its beginning on. What is read behind a failure has no meaning: who reads asks for failed at the end.
type reader struct {
	left   []byte
	failed bool
}

func (r *reader) program() api.Unit {
	if string(r.take(len(mark))) != mark {
		r.failed = true
	}
	var u api.Unit
	u.Names = getRow(r, r.text)
	u.Classes = getRow(r, r.class)
	u.Methods = getRow(r, r.method)
	u.Objects = getRow(r, r.obj)
	u.Main = r.number()
	return u
}

// take answers the next n bytes, which are the image's own; none, if so many are not left.
func (r *reader) take(n int) []byte {
	if n > len(r.left) {
		r.failed = true
		return nil
	}
	b := r.left[:n]
	r.left = r.left[n:]
	return b
}

func (r *reader) number() int {
	w := uint32(0)
	for _, c := range r.take(4) {
		w = w<<8 | uint32(c)
	}
	return int(int32(w))
}

// length is a number of things: less than none are not there.
func (r *reader) length() int {
	n := r.number()
	if n < 0 {
		r.failed = true
		return 0
	}
	return n
}

// getRow ends with the image, however many it says there are: so what is made is never much more than what was read.
func getRow[T any](r *reader, get func() T) []T {
	var l []T
	for n := r.length(); n > 0 && !r.failed; n-- {
		l = append(l, get())
	}
	return l
}

func (r *reader) text() string {
	return string(r.take(r.length()))
}

func (r *reader) class() api.Class {
	var c api.Class
	c.Name = r.text()
	c.Super = r.number()
	c.Fields = r.number()
	c.Binds = getRow(r, r.bind)
	return c
}

func (r *reader) bind() api.Bind {
	var x api.Bind
	x.Sel = r.number()
	x.Method = r.number()
	return x
}

func (r *reader) method() api.Method {
	var m api.Method
	m.Args = r.number()
	m.Temps = r.number()
	m.Lits = getRow(r, r.val)
	m.Code = append(m.Code, r.take(r.length())...)
	return m
}

func (r *reader) obj() api.Obj {
	var o api.Obj
	o.Class = r.number()
	o.Fields = getRow(r, r.val)
	return o
}

func (r *reader) val() api.Val {
	var v api.Val
	v.Kind = r.number()
	v.N = r.number()
	return v
}
