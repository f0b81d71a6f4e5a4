package obj

import (
	"bellwright/api"
	"bellwright/wire"
)

// appendList puts how many elements there are behind, and they.
func appendList[T any](b []byte, l []T, one func([]byte, T) []byte) []byte {
	b = wire.AppendNumber(b, len(l))
	for _, x := range l {
		b = one(b, x)
	}
	return b
}

// list reads how many elements there are, and they.
func list[T any](r *wire.Reader, one func(*wire.Reader) T) []T {
	return wire.List(r, r.Count(), one)
}

func appendInstr(b []byte, i api.Instr) []byte {
	return wire.AppendNumber(wire.AppendNumber(append(b, byte(i.Op)), i.A), i.B)
}

func appendFix(b []byte, f api.Fix) []byte {
	return wire.AppendNumber(append(wire.AppendNumber(b, f.At), byte(f.Kind)), f.M)
}

// object is read statement by statement, as what is read first must not hang on the order in which a literal's fields are worked out.
func object(r *wire.Reader) api.Object {
	var o api.Object
	o.Name = r.Text()
	o.Uses = list(r, (*wire.Reader).Text)
	o.Data = r.Number()
	o.Code = list(r, func(r *wire.Reader) api.Instr {
		i := api.Instr{Op: r.Byte()}
		i.A = r.Number()
		i.B = r.Number()
		return i
	})
	o.Fixes = list(r, func(r *wire.Reader) api.Fix {
		f := api.Fix{At: r.Number()}
		f.Kind = r.Byte()
		f.M = r.Number()
		return f
	})
	o.Entries = list(r, (*wire.Reader).Number)
	o.Main = r.Number()
	return o
}
