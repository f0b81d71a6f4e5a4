package link

import "bellwright/api"

// place is where an object lies in the image.
type place struct {
	number  int // which of the objects it is
	code    int // where its code begins
	data    int // where its data begins
	entries []int
}

// places has those of all objects, by their names.
type places map[string]place

// placesOf has fewer places than there are objects, if two have one name.
func placesOf(l []api.Object) places {
	all := places{}
	code, data := len(l)+1, 0 // ahead of all code a call of each main, and a halt
	for i, o := range l {
		all[o.Name] = place{number: i, code: code, data: data, entries: o.Entries}
		code += len(o.Code)
		data += o.Data
	}
	return all
}

func (all places) usesAreAhead(l []api.Object) bool {
	for i, o := range l {
		for _, use := range o.Uses {
			if p, ok := all[use]; !ok || p.number >= i {
				return false
			}
		}
	}
	return true
}

// module tells where module m of an object lies: 0 is the object itself, others its uses.
func (all places) module(o api.Object, m int) place {
	if m == 0 {
		return all[o.Name]
	}
	return all[o.Uses[m-1]]
}

// callsHold is asked when all objects are right, and all uses are there.
func (all places) callsHold(l []api.Object) bool {
	for _, o := range l {
		for _, f := range o.Fixes {
			if f.Kind == api.FixProc && o.Code[f.At].A >= len(all.module(o, f.M).entries) {
				return false
			}
		}
	}
	return true
}

// fixed tells an object's code as it stands in the image.
func (all places) fixed(o api.Object) []api.Instr {
	code := append([]api.Instr(nil), o.Code...)
	for _, f := range o.Fixes {
		code[f.At].A = all.module(o, f.M).fix(f.Kind, code[f.At].A)
	}
	return code
}

// fix tells what A becomes, if it means something of the module that lies here.
func (p place) fix(kind, a int) int {
	switch kind {
	case api.FixProc:
		return p.code + p.entries[a]
	case api.FixData:
		return p.data + a
	}
	return p.code + a
}
