// Package progs makes programs that the tests of the other packages hand in, and tells what those ask of programs.
package progs

import (
	"slices"

	"warp/api"
)

// drawer draws programs without places, by a function that tells numbers from 0 to below its argument.
type drawer struct{ next func(int) int }

// Drawn tells a program without places that a text can say: next tells numbers from 0 to below its argument.
func Drawn(next func(int) int) api.Program {
	d := drawer{next}
	var p api.Program
	for range next(3) {
		p.Datas = append(p.Datas, d.data())
	}
	for range next(4) {
		p.Binds = append(p.Binds, api.Bind{Name: d.name(), Body: d.expr(1 + next(6))})
	}
	return p
}

// DrawnExpr tells an expression at most so deep, as Drawn does.
func DrawnExpr(next func(int) int, deep int) api.Expr {
	return drawer{next}.expr(deep)
}

func (d drawer) name() string { return []string{"x", "y", "z", "f", "lets", "x_1"}[d.next(6)] }
func (d drawer) con() string  { return []string{"C", "D", "Nil", "Int", "Let", "X_1"}[d.next(6)] }

// names tells some names, perhaps none.
func (d drawer) names() []string {
	var l []string
	for range d.next(4) {
		l = append(l, d.name())
	}
	return l
}

// exprs tells n expressions at most so deep.
func (d drawer) exprs(n, deep int) []api.Expr {
	var l []api.Expr
	for range n {
		l = append(l, d.expr(deep))
	}
	return l
}

// expr tells an expression at most so deep.
func (d drawer) expr(deep int) api.Expr {
	if deep <= 1 || d.next(4) == 0 {
		return d.leaf()
	}
	switch kind := api.EApp + d.next(6); kind {
	case api.ELam:
		return api.Expr{Kind: kind, Name: d.name(), Kids: d.exprs(1, deep-1)}
	case api.ELet:
		return api.Expr{Kind: kind, Name: d.name(), Kids: d.exprs(2, deep-1)}
	case api.ETuple:
		return api.Expr{Kind: kind, Kids: d.exprs(2+d.next(d.next(7)+1), deep-1)}
	case api.EIf:
		return api.Expr{Kind: kind, Kids: d.exprs(3, deep-1)}
	case api.ECase:
		return api.Expr{Kind: kind, Kids: d.exprs(1, deep-1), Alts: d.alts(deep - 1)}
	}
	return api.Expr{Kind: api.EApp, Kids: d.exprs(2, deep-1)}
}

func (d drawer) leaf() api.Expr {
	switch d.next(6) {
	case 0:
		return api.Expr{Kind: api.ECon, Name: d.con()}
	case 1:
		return api.Expr{Kind: api.EInt, N: []int{0, 1, 2, 47, api.MaxInt}[d.next(5)]}
	case 2:
		return api.Expr{Kind: api.EBool, N: d.next(2)}
	}
	return api.Expr{Kind: api.EVar, Name: d.name()}
}

func (d drawer) alts(deep int) []api.Alt {
	var l []api.Alt
	for range 1 + d.next(3) {
		l = append(l, api.Alt{Con: d.con(), Names: d.names(), Body: d.expr(deep)})
	}
	return l
}

// types tells n types at most so deep, in which those variables are numbered.
func (d drawer) types(n, deep int, vars []string) []api.Type {
	var l []api.Type
	for range n {
		l = append(l, d.typ(deep, vars))
	}
	return l
}

func (d drawer) typ(deep int, vars []string) api.Type {
	switch kind := d.next(5); {
	case kind <= 1:
		return variable(d.name(), vars)
	case deep <= 1:
		return api.Type{Kind: api.YCon, Name: d.con()}
	case kind == 2:
		return api.Type{Kind: api.YCon, Name: d.con(), Kids: d.types(d.next(4), deep-1, vars)}
	case kind == 3:
		return api.Type{Kind: api.YCon, Name: "->", Kids: d.types(2, deep-1, vars)}
	}
	return api.Type{Kind: api.YCon, Name: ",", Kids: d.types(2+d.next(d.next(7)+1), deep-1, vars)}
}

// variable tells the type that this name is where those variables are numbered.
func variable(name string, vars []string) api.Type {
	if n := slices.Index(vars, name); n >= 0 {
		return api.Type{Kind: api.YVar, N: n}
	}
	return api.Type{Kind: api.YVar, N: -1, Name: name}
}

func (d drawer) data() api.Data {
	x := api.Data{Name: d.con(), Vars: d.names()}
	for range 1 + d.next(3) {
		x.Cons = append(x.Cons, api.Con{Name: d.con(), Args: d.types(d.next(4), 1+d.next(5), x.Vars)})
	}
	return x
}
