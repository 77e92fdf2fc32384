package scope

import (
	"fmt"
	"slices"
	"testing"

	"warp/api"
	"warp/lists"
	"warp/plays"
	"warp/progs"
)

// Drawn programs: right ones, and those with some things changed.

// drawer draws programs, by a function that tells numbers from 0 to below its argument.
type drawer struct {
	next  func(int) int
	cons  []api.Con // those that there are
	binds []string  // the names of Binds
}

// right tells a program that may be.
func right(t *testing.T, next func(int) int) api.Program {
	d := drawer{next: next}
	p := api.Program{Datas: some(t)}
	lists.Shuffle(next, p.Datas)
	for _, x := range p.Datas {
		d.cons = append(d.cons, x.Cons...)
	}
	d.binds = []string{"f", "g", "x", "y"}
	lists.Shuffle(next, d.binds)
	d.binds = d.binds[:next(5)]
	for _, name := range d.binds {
		p.Binds = append(p.Binds, api.Bind{Name: name, Body: d.expr(1+next(6), nil)})
	}
	return p
}

func (d drawer) name() string { return []string{"x", "y", "z", "f"}[d.next(4)] }

// expr tells an expression at most so deep, where those names are bound around it.
func (d drawer) expr(deep int, around []string) api.Expr {
	with := func(names ...string) api.Expr { return d.expr(deep-1, slices.Concat(around, names)) }
	if deep <= 1 || d.next(5) == 0 {
		return d.leaf(slices.Concat(around, d.binds))
	}
	name := d.name()
	switch kind := api.EApp + d.next(6); kind {
	case api.ELam:
		return lam(name, with(name))
	case api.ELet:
		return let(name, with(), with(name))
	case api.EIf:
		return node(kind, "", with(), with(), with())
	case api.ETuple:
		e := node(kind, "", with())
		for range 1 + d.next(3) {
			e.Kids = append(e.Kids, with())
		}
		return e
	case api.ECase:
		e := choose(with())
		for _, i := range d.places(len(d.cons))[:d.next(4)] {
			names := d.names(len(d.cons[i].Args))
			e.Alts = append(e.Alts, api.Alt{Con: d.cons[i].Name, Names: names, Body: with(names...)})
		}
		return e
	}
	return app(with(), with())
}

func (d drawer) leaf(names []string) api.Expr {
	switch kind := d.next(5); {
	case kind == 0:
		return number()
	case kind == 1 || len(names) == 0:
		return use(d.cons[d.next(len(d.cons))].Name)
	}
	return ref(names[d.next(len(names))])
}

// places tells the numbers below n, in any order.
func (d drawer) places(n int) []int {
	l := lists.Span(0, n-1)
	lists.Shuffle(d.next, l)
	return l
}

// names tells n names of which no two are one.
func (d drawer) names(n int) []string {
	all := []string{"x", "y", "z", "f"}
	var l []string
	for _, i := range d.places(len(all))[:n] {
		l = append(l, all[i])
	}
	return l
}

// change changes one thing of p, if it has such a thing.
func change(next func(int) int, p *api.Program) {
	x := progs.Of(*p)
	name := []string{"x", "y", "z", "f", "g", "q", ""}[next(7)]
	con := []string{"N", "C", "T0", "T1", "T2", "T3", "L", "Q", ""}[next(9)]
	switch kind := next(12); {
	case kind == 0 && len(x.Datas) > 0:
		i := next(len(p.Datas))
		p.Datas = slices.Delete(p.Datas, i, i+1)
	case kind == 1 && len(x.Cons) > 0:
		x.Cons[next(len(x.Cons))].Name = con
	case kind == 2 && len(x.Binds) > 0:
		x.Binds[next(len(x.Binds))].Name = name
	case kind <= 7 && len(x.Exprs) > 0:
		changeExpr(next, x.Exprs[next(len(x.Exprs))], name, con)
	case kind >= 8 && len(x.Alts) > 0:
		changeAlt(next, x.Alts[next(len(x.Alts))], name, con)
	}
}

func changeExpr(next func(int) int, e *api.Expr, name, con string) {
	switch next(7) {
	case 0, 1:
		e.Name = name
	case 2:
		e.Name = con
	case 3:
		e.Kind = next(13) - 1
	case 4:
		e.Kids = append(e.Kids, []api.Expr{ref(name), use(con)}[next(2)])
	case 5:
		e.Kids = e.Kids[:next(len(e.Kids)+1)]
	case 6:
		if n := len(e.Alts); n > 0 {
			a := e.Alts[next(n)]
			e.Alts = append(e.Alts, api.Alt{Con: a.Con, Names: slices.Clone(a.Names), Body: number()})
		}
	}
}

func changeAlt(next func(int) int, a *api.Alt, name, con string) {
	n := len(a.Names)
	switch kind := next(4); {
	case kind == 0:
		a.Con = con
	case kind == 1:
		a.Names = append(a.Names, name)
	case kind == 2:
		a.Names = a.Names[:next(n+1)]
	case n > 0:
		a.Names[next(n)] = name
	}
}

func changed(t *testing.T, next func(int) int, times int) api.Program {
	p := right(t, next)
	for range times {
		change(next, &p)
	}
	return p
}

func TestDrawnPrograms(t *testing.T) {
	next, seen := plays.Below(131), map[string]int{}
	for i := range 30000 {
		p := changed(t, next, i%5)
		if !said(p) {
			seen["not said"]++
			checkEnds(t, p)
			continue
		}
		checkPlain(t, p)
		e, _ := firstWrong(p)
		seen[fmt.Sprint(i%5, " error ", e)]++
		if e == api.ErrScope {
			l := faults(p)
			seen[l[0].what]++
			seen[fmt.Sprint("wrong: ", min(len(l), 3))]++
		}
		if i%5 == 0 && e != api.OK {
			t.Errorf("the test itself is wrong: %s", told(p))
		}
		if t.Failed() {
			t.Fatalf("program %d", i)
		}
	}
	for _, s := range []string{"0 error 0", "1 error 0", "1 error 6", "1 error 7", "4 error 0", "4 error 6", "4 error 7",
		"name of a Bind", "EVar", "ECon", "Alt without a Con", "number of Names", "two Names", "Con twice", "wrong: 1",
		"wrong: 2", "wrong: 3", "not said"} {
		if seen[s] < 50 {
			t.Errorf("%s: %d times", s, seen[s])
		}
	}
}

// leaves tells expressions of one node, and cases that have no Kids.
func leaves() []api.Expr {
	return []api.Expr{ref("f"), ref("x"), ref("q"), use("N"), use("Q"), number(), node(0, "q"), node(11, "Q")}
}

// outers tells expressions of which the Kids are one, other: each time new ones.
func outers(one, other api.Expr) []api.Expr {
	l := []api.Expr{app(one, other), lam("x", one), lam("q", one), lam("y", other), let("x", one, other),
		let("q", one, other), node(api.ELet, "x", one), node(api.ELet, "x", other, one, one), node(77, "x", one, other),
		node(api.EVar, "x", one), node(api.ECon, "N", one), node(api.EInt, "x", one, other)}
	for _, names := range []string{"", "x", "q", "x q", "x x"} {
		for _, con := range []string{"N", "C", "Q"} {
			l = append(l, choose(one, alt(con, names, other)), choose(one, alt("T1", "x", number()), alt(con, names, other)),
				choose(one, alt(con, names, other), alt("N", "", ref("x"))), choose(one, alt("N", "", other), alt(con, names, one)))
		}
	}
	return l
}

// TestSmallExprs holds expressions of three levels against the chapter.
func TestSmallExprs(t *testing.T) {
	d := some(t)
	look := func(e api.Expr) {
		p := api.Program{Datas: d, Binds: []api.Bind{{Name: "f", Body: e}}}
		for i, at := range progs.Places(p) {
			*at = i + 1
		}
		wantE, wantAt := firstWrong(p)
		checkAnswer(t, p, wantE, wantAt)
	}
	for _, one := range leaves() {
		look(one)
		for _, other := range leaves() {
			for i, inner := range outers(one, other) {
				look(inner)
				for j, e := range append(outers(ref("x"), inner), outers(inner, ref("q"))...) {
					if (i+j)%5 == 0 { // all would take long
						look(e)
					}
				}
			}
		}
	}
}

// Promise 13.2: other orders.

func TestEachOrder(t *testing.T) {
	for _, src := range []string{"let f = g; let g = h; let h = i; let i = f;",
		"let f = f; let g = 1; let h = f g; let i = h;",
		ofLists + "let f g = g h; let g = let f = g in f; let h x = case x of {N -> f; C f g -> i f g}; let i = C N i;",
		ofLists + "let x = \\x -> x; let y = \\x -> y x; let z = x y z; let u = (\\x -> x) x;"} {
		p := parsed(t, src)
		count := 0
		lists.Orders(p.Binds, func(l []api.Bind) {
			p.Binds = l
			check(t, p, api.OK)
			count++
		})
		if count != 24 {
			t.Errorf("the test itself is wrong: %d orders", count)
		}
	}
}

func TestDrawnOrders(t *testing.T) {
	next := plays.Below(132)
	for range 2000 {
		p := right(t, next)
		lists.Orders(p.Binds, func(l []api.Bind) {
			p.Binds = l
			checkOnce(t, p, api.OK, 0)
		})
	}
}

// What is wrong is wrong in each order.
func TestWrongInEachOrder(t *testing.T) {
	next := plays.Below(133)
	for range 2000 {
		p := changed(t, next, 1)
		if !said(p) {
			continue
		}
		was, _ := firstWrong(p)
		lists.Orders(p.Binds, func(l []api.Bind) {
			p.Binds = l
			e, at := firstWrong(p)
			checkOnce(t, p, e, at)
			if e != was {
				t.Fatalf("%s: another order is %d", told(p), e)
			}
		})
	}
}
