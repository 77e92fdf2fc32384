package show

import (
	"slices"

	"warp/api"
	"warp/lex"
	"warp/parse"
)

// mayProgram tells whether p may be, but for how long it is.
func (g shapes) mayProgram(p api.Program) bool {
	return all(p.Datas, g.mayData) && all(p.Binds, g.mayBind)
}

func (g shapes) mayBind(b api.Bind) bool {
	return lex.Name(b.Name) && parse.Deep(b.Body) <= api.MaxDeep && g.mayExpr(b.Body)
}

// mayExpr tells whether e may stand in a program, but for how deep and how long it is.
func (g shapes) mayExpr(e api.Expr) bool {
	s, is := g.exprs[sort{kind: e.Kind}]
	return is && s.fits(e.Name, e.N, len(e.Kids)) && s.cases == (len(e.Alts) > 0) &&
		all(e.Kids, g.mayExpr) && all(e.Alts, g.mayAlt)
}

func (g shapes) mayAlt(a api.Alt) bool {
	return lex.Con(a.Con) && all(a.Names, lex.Name) && g.mayExpr(a.Body)
}

func (g shapes) mayData(d api.Data) bool {
	v := variables{d.Vars, places(d.Vars)}
	return lex.Con(d.Name) && all(d.Vars, lex.Name) && len(d.Cons) > 0 &&
		all(d.Cons, func(c api.Con) bool { return g.mayCon(c, v) })
}

func (g shapes) mayCon(c api.Con, v variables) bool {
	return lex.Con(c.Name) && all(c.Args, func(t api.Type) bool { return g.mayType(t, v, api.MaxDeep) })
}

// mayType tells whether t may stand in a data of those variables, at most so deep.
func (g shapes) mayType(t api.Type, v variables, deep int) bool {
	named, name := sortOf(t)
	s, is := g.types[named]
	if !is || deep == 0 || !all(t.Kids, func(kid api.Type) bool { return g.mayType(kid, v, deep-1) }) {
		return false
	}
	if t.Kind == api.YVar {
		return len(t.Kids) == 0 && v.has(t.N, t.Name)
	}
	return s.fits(name, t.N, len(t.Kids))
}

// fits tells whether one of that shape has that Name, that N, and so many Kids.
func (s shape) fits(name string, n, kids int) bool {
	return isOf(s.name, name) && 0 <= n && n <= s.top && s.least <= kids && kids <= s.most
}

// isOf tells whether s is a token of that kind: of kind 0, whether there is none.
func isOf(kind int, s string) bool {
	switch kind {
	case api.TName:
		return lex.Name(s)
	case api.TCon:
		return lex.Con(s)
	}
	return s == ""
}

// variables are those of a data.
type variables struct {
	names  []string
	places map[string]int // of each name its first one
}

func places(names []string) map[string]int {
	m := map[string]int{}
	for i, name := range slices.Backward(names) {
		m[name] = i
	}
	return m
}

// has tells whether a variable has that N and that Name.
func (v variables) has(n int, name string) bool {
	if n == -1 {
		_, is := v.places[name]
		return !is && lex.Name(name)
	}
	return 0 <= n && n < len(v.names) && v.places[v.names[n]] == n && name == ""
}

// all tells whether each of l is so.
func all[T any](l []T, is func(T) bool) bool {
	for _, x := range l {
		if !is(x) {
			return false
		}
	}
	return true
}
