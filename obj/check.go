package obj

import (
	"slices"

	"bellwright/api"
	"bellwright/lex"
)

func hasTooMany(o api.Object) bool {
	return len(o.Uses) > api.MaxUses || len(o.Entries) > api.MaxProcs || len(o.Code) < 1 || len(o.Code) > api.MaxCode
}

// namesHold is asked of few uses.
func namesHold(o api.Object) bool {
	if !isName(o.Name) {
		return false
	}
	for i, use := range o.Uses {
		if !isName(use) || use == o.Name || slices.Contains(o.Uses[:i], use) {
			return false
		}
	}
	return true
}

func isName(s string) bool {
	return lex.Check([]api.Tok{{Kind: api.Word, Text: s}}) == api.OK
}

// codeHolds asks for the code, what lies in it, and the data.
func codeHolds(o api.Object) bool {
	for _, i := range o.Code {
		if i.Op < api.OpPush || i.Op > api.OpTruth {
			return false
		}
	}
	for _, at := range o.Entries {
		if !isPlace(o, at) {
			return false
		}
	}
	return isPlace(o, o.Main) && o.Data >= 0 && o.Data <= api.MaxData
}

func isPlace(o api.Object, at int) bool {
	return at >= 0 && at < len(o.Code)
}

func fixesHold(o api.Object) bool {
	last := -1
	for _, f := range o.Fixes {
		if f.At <= last || !isPlace(o, f.At) || !fixHolds(o, f) {
			return false
		}
		last = f.At
	}
	return true
}

// fixHolds is asked of a fix whose At is a place of code.
func fixHolds(o api.Object, f api.Fix) bool {
	far, uses := api.MaxCode, len(o.Uses)
	switch f.Kind {
	case api.FixCode:
		far, uses = len(o.Code), 0 // a jump may go right behind the code
	case api.FixProc, api.FixData:
	default:
		return false
	}
	a := o.Code[f.At].A
	return a >= 0 && a <= far && f.M >= 0 && f.M <= uses
}
