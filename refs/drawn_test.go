package refs

import (
	"fmt"
	"testing"

	"warp/api"
	"warp/plays"
	"warp/progs"
)

// Drawn programs, and all small expressions, held against what the chapter says.

// drawnBinds tells Binds of some drawn programs: of one name there may be several.
func drawnBinds(next func(int) int) []api.Bind {
	var l []api.Bind
	for range next(5) {
		l = append(l, progs.Drawn(next).Binds...)
	}
	return l
}

// change changes one expression or Alt of p, if it has one.
func change(next func(int) int, p api.Program) {
	x := progs.Of(p)
	name := []string{"x", "y", "z", "f", "q", ""}[next(6)]
	switch {
	case next(3) == 0 && len(x.Alts) > 0:
		a := x.Alts[next(len(x.Alts))]
		a.Names = [][]string{nil, {name}, append(a.Names, name), a.Names[:next(len(a.Names)+1)]}[next(4)]
	case len(x.Exprs) > 0:
		changeExpr(next, x.Exprs[next(len(x.Exprs))], name)
	}
}

func changeExpr(next func(int) int, e *api.Expr, name string) {
	switch next(6) {
	case 0, 1:
		e.Name = name
	case 2:
		e.Kind = next(13) - 1
	case 3:
		e.Kids = append(e.Kids, ref(name))
	case 4:
		e.Kids = e.Kids[:next(len(e.Kids)+1)]
	case 5:
		e.Alts = append(e.Alts, alt(app(ref("x"), ref("y")), name))
	}
}

// changed tells drawn Binds with so many changes.
func changed(next func(int) int, times int) api.Program {
	p := api.Program{Binds: drawnBinds(next)}
	for range times {
		change(next, p)
	}
	return p
}

// count counts what p has in it.
func count(seen map[string]int, p api.Program) {
	names := map[string]int{}
	for _, b := range p.Binds {
		names[b.Name]++
		all, free := uses(b.Body, nil), plainFree(b.Body)
		seen[fmt.Sprint("free: ", min(len(free), 4))]++
		for i, u := range all {
			if i > 0 && len(u.around) > 2 && u.name == all[i-1].name && len(all[i-1].around) < 2 {
				seen["one name, other ones around"]++
			}
		}
	}
	for _, to := range plainGraph(p.Binds) {
		seen[fmt.Sprint("to: ", min(len(to), 3))]++
	}
	if len(names) < len(p.Binds) {
		seen["one name of two Binds"]++
	}
}

func TestDrawnPrograms(t *testing.T) {
	next, seen := plays.Below(143), map[string]int{}
	for i := range 8000 {
		p := changed(next, i%4)
		if said(p) {
			checkPlain(t, p)
			count(seen, p)
		} else {
			checkEnds(t, p)
			seen["not said"]++
		}
		if t.Failed() {
			t.Fatalf("program %d", i)
		}
	}
	for _, s := range []string{"free: 0", "free: 1", "free: 2", "free: 3", "free: 4", "one name, other ones around", "to: 0",
		"to: 1", "to: 2", "to: 3", "one name of two Binds", "not said"} {
		if seen[s] < 200 {
			t.Errorf("%s: %d times", s, seen[s])
		}
	}
}

// A name that is bound around all is not free: the others are, in their order.
func TestDrawnNamesBoundAroundAll(t *testing.T) {
	next := plays.Below(144)
	for i := range 1000 {
		e := progs.DrawnExpr(next, 1+i%6)
		checkFree(t, e, plainFree(e)...)
	}
}

// leaves tells expressions of one node.
func leaves() []api.Expr {
	return []api.Expr{ref("x"), ref("y"), node(api.ECon, "x"), number(), node(0, "y")}
}

// outers tells expressions of which the Kids are one, other: each time new ones.
func outers(one, other api.Expr) []api.Expr {
	l := []api.Expr{app(one, other), lam("x", one), lam("y", other), let("x", one, other), let("y", one, other),
		node(api.ETuple, "", one, other, one), node(api.EIf, "x", one, other, ref("x")), node(api.ELet, "x", one),
		node(api.ELet, "x", other, one, one), node(77, "x", one, other), node(api.EVar, "x", one),
		node(api.ECon, "y", one, other), node(api.EInt, "x", one, other)}
	for _, names := range [][]string{nil, {"x"}, {"y"}, {"x", "y"}, {"x", "x"}} {
		l = append(l, choose(one, alt(other, names...)), choose(one, alt(ref("y"), "x"), alt(other, names...)),
			choose(one, alt(other, names...), alt(ref("x"), "y")), choose(one, alt(one, names...), alt(other)))
	}
	return l
}

func TestSmallExprs(t *testing.T) {
	look := func(e api.Expr) {
		checkNames(t, e, plainFree(e))
	}
	for _, one := range leaves() {
		look(one)
		for _, other := range leaves() {
			for _, inner := range outers(one, other) {
				look(inner)
				for _, e := range append(outers(ref("x"), inner), outers(inner, ref("y"))...) {
					look(e)
				}
			}
		}
	}
}
