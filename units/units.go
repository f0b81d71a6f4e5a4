// Package units: what is asked of one unit. sem asks it with the units that are used at hand, gen without them.
package units

import (
	"bellwright/api"
	"bellwright/scope"
)

// Uses is what is known of the units that one uses: m is the number of a use, from 1 on.
type Uses interface {
	// HasNumbers tells whether n numbers from a place on are that unit's.
	HasNumbers(m, at, n int) bool
	// HasPart tells whether that unit has such a part, with so many parameters.
	HasPart(m, at, params int) bool
}

// Hold tells whether a unit is right, if what it uses is.
func Hold(u api.Unit, uses Uses) bool {
	if !headHolds(u) {
		return false
	}
	for _, p := range u.Parts {
		c := checker{unit: u, uses: uses, locals: p.Params + p.Locals}
		if !c.blockHolds(p.Body, 1) {
			return false
		}
	}
	return checker{unit: u, uses: uses}.blockHolds(u.Main, 1)
}

// LieIn tells whether n numbers from a place on lie in so many: at and n are not added, as their sum could go round.
func LieIn(size, at, n int) bool {
	return at >= 0 && at <= size-n
}

// headHolds tells whether a unit is right, but for its statements.
func headHolds(u api.Unit) bool {
	// A module without declarations has a face, if its name and its uses are as they must be.
	if _, e := scope.Face(api.Module{Name: u.Name, Uses: u.Uses}); e != api.OK {
		return false
	}
	for _, p := range u.Parts {
		if p.Params < 0 || p.Params > api.MaxParams || p.Locals < 0 || p.Locals > api.MaxLocals {
			return false
		}
	}
	return u.Data >= 0 && u.Data <= api.MaxData && len(u.Parts) <= api.MaxProcs
}
