package show

import (
	"strings"

	"warp/api"
)

// Bare tells p without places.
func Bare(p api.Program) api.Program {
	return api.Program{Datas: each(p.Datas, bareData), Binds: each(p.Binds, bareBind)}
}

func bareData(d api.Data) api.Data {
	return api.Data{Name: strings.Clone(d.Name), Vars: each(d.Vars, strings.Clone), Cons: each(d.Cons, bareCon)}
}

func bareCon(c api.Con) api.Con {
	return api.Con{Name: strings.Clone(c.Name), Args: each(c.Args, copyType)}
}

func copyType(t api.Type) api.Type {
	t.Name, t.Kids = strings.Clone(t.Name), each(t.Kids, copyType)
	return t
}

func bareBind(b api.Bind) api.Bind {
	return api.Bind{Name: strings.Clone(b.Name), Body: bareExpr(b.Body)}
}

func bareExpr(e api.Expr) api.Expr {
	e.At, e.Name = 0, strings.Clone(e.Name)
	e.Kids, e.Alts = each(e.Kids, bareExpr), each(e.Alts, bareAlt)
	return e
}

func bareAlt(a api.Alt) api.Alt {
	return api.Alt{Con: strings.Clone(a.Con), Names: each(a.Names, strings.Clone), Body: bareExpr(a.Body)}
}

// each tells what f makes of each of l.
func each[T any](l []T, f func(T) T) []T {
	made := make([]T, len(l))
	for i, x := range l {
		made[i] = f(x)
	}
	return made
}
