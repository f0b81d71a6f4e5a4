package sem

import (
	"bellwright/api"
	"bellwright/units"
)

func usesAreAhead(l []api.Unit) bool {
	ahead := map[string]int{}
	for _, u := range l {
		for _, use := range u.Uses {
			if ahead[use] == 0 {
				return false
			}
		}
		ahead[u.Name]++
	}
	return true
}

func hasNameTwice(l []api.Unit) bool {
	count := map[string]int{}
	for _, u := range l {
		count[u.Name]++
	}
	return len(count) < len(l)
}

// dataHolds is asked when Data of each unit is right, so that the sum is not great.
func dataHolds(l []api.Unit) bool {
	sum := 0
	for _, u := range l {
		sum += u.Data
	}
	return sum <= api.MaxData
}

// known has the units that one uses, in their order.
type known []api.Unit

func (k known) HasNumbers(m, at, n int) bool {
	return units.LieIn(k[m-1].Data, at, n)
}

func (k known) HasPart(m, at, params int) bool {
	parts := k[m-1].Parts
	return at >= 0 && at < len(parts) && parts[at].Params == params
}

// formHolds is asked when each use is the name of one unit ahead.
func formHolds(l []api.Unit) bool {
	at := map[string]int{}
	for i, u := range l {
		at[u.Name] = i
		var uses known
		for _, use := range u.Uses {
			uses = append(uses, l[at[use]])
		}
		if !units.Hold(u, uses) {
			return false
		}
	}
	return true
}
