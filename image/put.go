package image

import "treadwheel/api"

// putNumber keeps the lowest 32 bits alone: every number of a right program goes into them with its sign.
func putNumber(b []byte, n int) []byte {
	w := uint32(n)
	return append(b, byte(w>>24), byte(w>>16), byte(w>>8), byte(w))
}

// putRow puts how many of l there are, then each.
func putRow[T any](b []byte, l []T, put func(b []byte, one T) []byte) []byte {
	b = putNumber(b, len(l))
	for _, one := range l {
		b = put(b, one)
	}
	return b
}

func putText(b []byte, s string) []byte {
	return append(putNumber(b, len(s)), s...)
}

func putClass(b []byte, c api.Class) []byte {
	b = putText(b, c.Name)
	b = putNumber(b, c.Super)
	b = putNumber(b, c.Fields)
	return putRow(b, c.Binds, putBind)
}

func putBind(b []byte, x api.Bind) []byte {
	return putNumber(putNumber(b, x.Sel), x.Method)
}

func putMethod(b []byte, m api.Method) []byte {
	b = putNumber(b, m.Args)
	b = putNumber(b, m.Temps)
	b = putRow(b, m.Lits, putVal)
	return append(putNumber(b, len(m.Code)), m.Code...)
}

func putObj(b []byte, o api.Obj) []byte {
	return putRow(putNumber(b, o.Class), o.Fields, putVal)
}

func putVal(b []byte, v api.Val) []byte {
	return putNumber(putNumber(b, v.Kind), v.N)
}
