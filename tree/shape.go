package tree

import "bellwright/api"

// opSigns has the signs of the operations with two arguments, from And to Less.
const opSigns = "&|+-*/%=<"

// shape says what an operation has; a field of it that is not said here must be empty.
type shape struct {
	named       bool
	number      bool
	least, most int // how many arguments
	body, other bool
}

func exprShapes() map[int]shape {
	shapes := map[int]shape{
		api.Num:  {number: true},
		api.In:   {},
		api.Var:  {named: true},
		api.Elem: {named: true, least: 1, most: 1},
		api.Call: {named: true, most: api.MaxParams},
		api.Not:  {least: 1, most: 1},
	}
	for op := api.And; op <= api.Less; op++ {
		shapes[op] = shape{least: 2, most: 2}
	}
	return shapes
}

func stmtShapes() map[int]shape {
	return map[int]shape{
		api.Set:    {named: true, least: 1, most: 1},
		api.Put:    {named: true, least: 2, most: 2},
		api.Do:     {named: true, most: api.MaxParams},
		api.If:     {least: 1, most: 1, body: true, other: true},
		api.While:  {least: 1, most: 1, body: true},
		api.Return: {least: 1, most: 1},
		api.Out:    {least: 1, most: 1},
	}
}
