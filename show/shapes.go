package show

import "warp/api"

const (
	arrow = "->"
	comma = ","

	many = api.MaxSrc // no text has room for more than that of anything
)

// How tight a text holds together: what is less so than its place asks for stands in brackets.
const (
	loose  = iota // it may stand where nothing goes on behind it
	joined        // it is atoms in a row
	tight         // it is an atom
)

// sort is what expressions are told apart by, and types: the kind, and the text of a type's sign.
type sort struct {
	kind int
	text string
}

// shape is what each of one sort has, and nothing else.
type shape struct {
	name  int  // of what kind of token its Name is: 0, if it has none
	top   int  // its N is from 0 to that
	least int  // so many Kids it has at least
	most  int  // and so many at most
	cases bool // it has Alts
	tight int  // how tight its text is, if it has Kids
}

// shapes are those of all expressions, and of all types.
type shapes struct {
	exprs map[sort]shape
	types map[sort]shape
}

func allShapes() shapes {
	return shapes{exprs: exprShapes(), types: typeShapes()}
}

func exprShapes() map[sort]shape {
	return map[sort]shape{
		{kind: api.EVar}:   {name: api.TName},
		{kind: api.ECon}:   {name: api.TCon},
		{kind: api.EInt}:   {top: api.MaxInt},
		{kind: api.EBool}:  {top: 1},
		{kind: api.EApp}:   {least: 2, most: 2, tight: joined},
		{kind: api.ELam}:   {name: api.TName, least: 1, most: 1, tight: loose},
		{kind: api.ELet}:   {name: api.TName, least: 2, most: 2, tight: loose},
		{kind: api.ETuple}: {least: 2, most: api.MaxTuple, tight: tight},
		{kind: api.EIf}:    {least: 3, most: 3, tight: loose},
		{kind: api.ECase}:  {least: 1, most: 1, cases: true, tight: loose},
	}
}

// typeShapes tells the shapes of types: what N and Name a variable has hangs on the data around it.
func typeShapes() map[sort]shape {
	return map[sort]shape{
		{kind: api.YVar}:              {},
		{kind: api.YCon}:              {name: api.TCon, most: many, tight: joined},
		{kind: api.YCon, text: arrow}: {least: 2, most: 2, tight: loose},
		{kind: api.YCon, text: comma}: {least: 2, most: api.MaxTuple, tight: tight},
	}
}

// sortOf tells the sort of t, and what is left of its Name.
func sortOf(t api.Type) (s sort, name string) {
	if t.Name == arrow || t.Name == comma {
		return sort{t.Kind, t.Name}, ""
	}
	return sort{kind: t.Kind}, t.Name
}

// howTight tells how tight the text is of one that has so many Kids: all without are atoms.
func (s shape) howTight(kids int) int {
	if kids == 0 {
		return tight
	}
	return s.tight
}
