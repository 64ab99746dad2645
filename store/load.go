package store

import (
	"treadwheel/api"
	"treadwheel/unit"
	"treadwheel/word"
)

// Load makes the objects of u in s and answers their identities, in order; false, unless u is right, or if s has no room for one.
func Load(s Store, u api.Unit) (ids []int, ok bool) {
	// A nil memory, handed in as a Store, is not the nil Store: only its calls tell.
	defer func() {
		if recover() != nil {
			ids, ok = nil, false
		}
	}()
	if s == nil || unit.Right(u) != api.OK {
		return nil, false
	}
	for _, o := range u.Objects {
		id := s.Alloc(o.Class, len(o.Fields))
		if id == none {
			return nil, false
		}
		ids = append(ids, id)
	}
	// A field may lead to an object that is made later: so all are there ahead of the first field.
	for i, o := range u.Objects {
		fill(s, ids[i], o.Fields, ids)
	}
	return ids, true
}

// fill lays the values into the fields of the object id; ids are those of all objects.
func fill(s Store, id int, values []api.Val, ids []int) {
	for i, v := range values {
		s.Put(id, i, wordOf(v, ids))
	}
}

// wordOf answers the word of a right value, where ids are those of all objects.
func wordOf(v api.Val, ids []int) uint32 {
	switch v.Kind {
	case api.True:
		return word.True
	case api.False:
		return word.False
	case api.Num:
		w, _ := word.Int(v.N)
		return w
	case api.Ref:
		return word.Oop(ids[v.N])
	}
	return word.Nil
}
