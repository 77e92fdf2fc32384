package scope

import (
	"math"
	"testing"

	"warp/api"
)

// Promise 13.1: what of several things that are wrong is told.

// wrongs tells expressions that have one thing wrong each, which is marked: each time new ones.
func wrongs() []api.Expr {
	n := number()
	f := ref("f")
	empty, last := api.Alt{}, alt("N", "", n)
	return []api.Expr{marked(ref("q")), marked(ref("")), marked(ref("N")), marked(ref("L")), marked(ref("a")),
		marked(use("Q")), marked(use("")), marked(use("L")), marked(use("f")), marked(use("Int")),
		choose(f, markedAlt(alt("Q", "", n))), choose(f, markedAlt(alt("L", "x", n))), choose(f, markedAlt(alt("f", "", n))),
		choose(f, markedAlt(empty)), choose(f, last, markedAlt(alt("Q", "x y", n)), alt("C", "x y", n)),
		choose(f, markedAlt(alt("N", "x", n))), choose(f, markedAlt(alt("C", "", n))), choose(f, markedAlt(alt("C", "x", n))),
		choose(f, markedAlt(alt("C", "x y z", n)), last), choose(f, last, alt("C", "x y", n), markedAlt(alt("T1", "", n))),
		choose(f, markedAlt(alt("C", "x x", n))), choose(f, markedAlt(alt("T3", "x x y", n))),
		choose(f, last, markedAlt(alt("T3", "x y x", n)), alt("T2", "x y", n)), choose(f, markedAlt(alt("T3", "x y y", n))),
		choose(f, last, markedAlt(last)), choose(f, alt("C", "x y", n), last, markedAlt(last)),
		choose(f, alt("C", "x y", n), last, markedAlt(alt("C", "y x", n))), choose(f, last, markedAlt(alt("N", "x y z", n)))}
}

// rights tells expressions that have nothing wrong: each time new ones.
func rights() []api.Expr {
	n := number()
	return []api.Expr{n, node(api.EBool, ""), ref("f"), ref("h"), use("N"), use("T3"), choose(ref("g")),
		lam("q", ref("q")), let("q", ref("h"), ref("q")), choose(use("C"), alt("C", "q r", app(ref("r"), ref("q")))),
		choose(ref("g"), alt("T0", "", n), alt("T1", "x", ref("x")), alt("N", "", n), alt("T3", "z y x", ref("y")),
			alt("C", "f g", ref("g")))}
}

// around tells expressions that have e in them, or are it, each at another place: each time new ones.
func around(e api.Expr) []api.Expr {
	n := number()
	deep := e
	for range 40 {
		deep = lam("x", choose(ref("x"), alt("N", "", n), alt("C", "x y", let("z", app(n, deep), ref("z")))))
	}
	l := []api.Expr{e, app(e, n), app(n, e), app(app(n, e), n), app(n, app(e, n)), lam("x", e), lam("x", lam("y", e)),
		let("x", e, ref("x")), let("x", n, e), let("x", n, let("y", e, n)), let("x", let("y", n, e), n),
		node(api.EIf, "", e, n, n), node(api.EIf, "", n, e, n), node(api.EIf, "", n, n, e), choose(e),
		choose(e, alt("N", "", n)),
		choose(n, alt("N", "", e)), choose(n, alt("N", "", n), alt("C", "x y", e)),
		choose(n, alt("C", "x y", e), alt("N", "", n)), choose(n, alt("T0", "", n), alt("T1", "x", e), alt("T2", "x y", n)),
		choose(n, alt("N", "", choose(n, alt("N", "", e)))), deep}
	for i := range api.MaxTuple {
		x := node(api.ETuple, "")
		for range api.MaxTuple {
			x.Kids = append(x.Kids, n)
		}
		x.Kids[i] = e
		l = append(l, x)
	}
	return l
}

// pairs tells expressions that have both in them, one ahead of the other: each time new ones.
func pairs(one, other api.Expr) []api.Expr {
	n := number()
	return []api.Expr{app(one, other), app(app(n, one), other), app(one, app(n, other)), app(app(one, other), n),
		let("x", one, other), let("x", let("y", n, one), other), let("x", lam("y", one), lam("y", other)),
		node(api.ETuple, "", one, n, other), node(api.ETuple, "", n, n, one, other), node(api.EIf, "", one, other, n),
		node(api.EIf, "", one, n, other), node(api.EIf, "", n, one, other), choose(one, alt("N", "", other)),
		choose(one, alt("N", "", n), alt("C", "x y", other)), choose(n, alt("N", "", one), alt("C", "x y", other)),
		choose(n, alt("C", "x y", one), alt("N", "", other)),
		choose(n, alt("N", "", n), alt("C", "x y", lam("z", one)), alt("T0", "", other)),
		choose(n, alt("N", "", choose(one, alt("N", "", other)))), lam("x", app(lam("x", one), lam("y", other))),
		node(77, "", one, other), node(0, "", n, one, n, other)}
}

// holders tells what Alts there may be around e: each time new ones.
func holders(e api.Expr) []api.Alt {
	return []api.Alt{alt("Q", "", e), alt("", "x", e), alt("N", "x", e), alt("C", "x", e), alt("C", "x x", e),
		alt("L", "", e), alt("T0", "", e)}
}

func TestEachWrongInEachPlace(t *testing.T) {
	for i := range wrongs() {
		for j := range around(number()) {
			for bind := range 3 {
				p := three(t, ref("f"), lam("x", ref("h")), use("N"))
				p.Binds[bind].Body = around(wrongs()[i])[j]
				check(t, p, api.ErrScope)
			}
		}
	}
}

func TestEachRightInEachPlace(t *testing.T) {
	for i := range rights() {
		for j := range around(number()) {
			for bind := range 3 {
				p := three(t, ref("f"), lam("x", ref("h")), use("N"))
				p.Binds[bind].Body = around(rights()[i])[j]
				check(t, p, api.OK)
			}
		}
	}
}

func TestTwoWrongsInOneBody(t *testing.T) {
	for i := range wrongs() {
		for j := range wrongs() {
			for k := range pairs(number(), number()) {
				e := pairs(wrongs()[i], unmarked(wrongs()[j]))[k]
				p := three(t, number(), e, number())
				check(t, p, api.ErrScope)
			}
		}
	}
}

func TestWrongsInTwoBinds(t *testing.T) {
	for i := range wrongs() {
		for j := range wrongs() {
			one := func() api.Expr { return wrongs()[i] }
			other := func() api.Expr { return unmarked(wrongs()[j]) }
			deep := func(e api.Expr) api.Expr { return around(e)[(i+j)%len(around(e))] }
			check(t, three(t, one(), deep(other()), number()), api.ErrScope)
			check(t, three(t, deep(one()), number(), other()), api.ErrScope)
			check(t, three(t, number(), one(), deep(other())), api.ErrScope)
			check(t, three(t, number(), deep(one()), other()), api.ErrScope)
			check(t, three(t, deep(one()), other(), deep(other())), api.ErrScope)
		}
	}
}

// An expression, an Alt that is wrong is told ahead of what is wrong in it, and behind the Kids of its case.
func TestWrongsInWrongs(t *testing.T) {
	for i := range wrongs() {
		inner := func() api.Expr { return unmarked(wrongs()[i]) }
		check(t, three(t, marked(node(api.EVar, "q", inner())), number(), inner()), api.ErrScope)
		check(t, three(t, number(), marked(node(api.ECon, "Q", number(), inner())), number()), api.ErrScope)
		check(t, three(t, number(), node(api.EVar, "f", wrongs()[i], ref("q")), inner()), api.ErrScope)
		check(t, three(t, number(), node(api.ECon, "N", wrongs()[i], ref("q")), inner()), api.ErrScope)
		// The last of those Alts is wrong as one ahead has its Con.
		for j := range holders(number()) {
			first := alt("T0", "", number())
			e := choose(ref("f"), first, markedAlt(holders(inner())[j]), holders(inner())[0])
			check(t, three(t, number(), number(), e), api.ErrScope)
			e = choose(wrongs()[i], first, holders(number())[j])
			check(t, three(t, number(), e, inner()), api.ErrScope)
			e = choose(ref("f"), alt("T0", "", wrongs()[i]), holders(inner())[j])
			check(t, three(t, e, number(), inner()), api.ErrScope)
			e = choose(ref("f"), first, markedAlt(holders(number())[j]), alt("N", "", inner()))
			check(t, three(t, e, inner(), number()), api.ErrScope)
		}
	}
}

// The names of Binds come ahead of all that is in any of them.
func TestNamesOfBinds(t *testing.T) {
	names := []string{"f", "g", "h", "i", "j"}
	bind := func(body api.Expr) (l []api.Bind) {
		for _, name := range names {
			l = append(l, api.Bind{Name: name, Body: body})
		}
		return l
	}
	for j := range names {
		for i := range j {
			for k := range 2 * len(names) {
				p := api.Program{Datas: some(t), Binds: bind(number())}
				p.Binds[j].Name, p.Binds[j].At = p.Binds[i].Name, mark
				// Beside it something is wrong in a Bind, or one behind has the name, too.
				if k < len(names) {
					p.Binds[k].Body = lam("x", ref("q"))
				} else if k-len(names) > j {
					p.Binds[k-len(names)].Name = p.Binds[i].Name
				}
				check(t, p, api.ErrScope)
			}
		}
		for k := j + 1; k < len(names); k++ {
			for first := range j {
				for other := range k {
					p := api.Program{Binds: bind(use("Q"))}
					p.Binds[k].Name = p.Binds[other].Name
					p.Binds[j].Name, p.Binds[j].At = p.Binds[first].Name, mark
					check(t, p, api.ErrScope)
				}
			}
		}
	}
	checkTexts(t, "let f = 1; let #f = 2;", "let f = x; let #f = y;", "let f = 1; let #f = 2; let f = 3;",
		"let f = 1; let g = 2; let #f = 3; let g = 4;", "let f = 1; let g = 2; let #g = 3; let f = 4;",
		"let f = x; let g = y; let #f = g;", "let f = g; let #f = f; let g = Q;", "let f x = x; let x = f; let #x = x;")
}

// badDatas tells declarations that are wrong, with what is wrong marked: each time new ones.
func badDatas() [][]api.Data {
	con := api.Con{Name: "C", At: mark}
	return [][]api.Data{{{Name: "Int", At: mark}}, {{Name: "A"}, {Name: "A", At: mark}},
		{{Name: "A", At: mark, Vars: []string{"a", "a"}}}, {{Name: "A", Cons: []api.Con{{Name: "C"}, con}}},
		{{Name: "A", Cons: []api.Con{{Name: "C", At: mark, Args: []api.Type{{Kind: api.YCon, Name: "Q"}}}}}},
		{{Name: "A"}, {Name: "B", Cons: []api.Con{{Name: "D"}, {Name: "C", At: mark, Args: make([]api.Type, 1)}}}}}
}

func TestDatasComeFirst(t *testing.T) {
	for i := range badDatas() {
		check(t, api.Program{Datas: badDatas()[i]}, api.ErrData)
		for j := range wrongs() {
			check(t, api.Program{Datas: badDatas()[i], Binds: three(t, number(), rights()[j%len(rights())], number()).Binds},
				api.ErrData)
			check(t, api.Program{Datas: badDatas()[i], Binds: three(t, unmarked(wrongs()[j]), number(), number()).Binds},
				api.ErrData)
		}
		check(t, api.Program{Datas: badDatas()[i], Binds: make([]api.Bind, 2)}, api.ErrData)
	}
	checkTexts(t, "data A = X | !X; let f = 1;", "data A = X | !X; let f = y;", "let f = g; data A = !X B;",
		"let f = 1; let f = 2; data A = !X B;", "data A = X | Y; let f = #y;", "let f = 1; data A = !X B; let f = 2;",
		"let f = 1; data A = X; let #f = 2; data B = Y;", "data !Int = X; let f = X;", "data A = X; data !A = Y; let f = Z;")
}

// Whatever numbers the places have, they are told; beside OK 0 is.
func TestPlacesOfAnyNumber(t *testing.T) {
	for _, at := range []int{0, 1, -1, -7, 1 << 31, 1 << 32, -1 << 32, math.MaxInt, math.MinInt} {
		e := choose(number(), api.Alt{Con: "N", At: at, Body: api.Expr{Kind: api.EVar, Name: "f", At: at}})
		e.At = at
		p := three(t, e, e, e)
		for i := range p.Binds {
			p.Binds[i].At = at
		}
		checkOnce(t, p, api.OK, 0)
		p.Binds[1].Body.Alts[0].Names = []string{"x"}
		checkOnce(t, p, api.ErrScope, at)
		p.Binds[1].Body = api.Expr{Kind: api.ECon, Name: "Q", At: at}
		checkOnce(t, p, api.ErrScope, at)
		p.Binds[1].Body.Kind = api.EVar
		checkOnce(t, p, api.ErrScope, at)
		p.Binds[2].Name = "f"
		checkOnce(t, p, api.ErrScope, at)
		p.Datas[0].Name, p.Datas[0].At = "Int", at
		checkOnce(t, p, api.ErrData, at)
	}
}
