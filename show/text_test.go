package show

import (
	"slices"
	"strings"
	"testing"

	"warp/api"
	"warp/parse"
	"warp/plays"
	"warp/progs"
)

// Promise 11.2: programs as text. (checkExpr, checkTypes, checkText: 11.3, too.)

func TestAtoms(t *testing.T) {
	checkExpr(t, named("x"), "x")
	checkExpr(t, named("x_1Y"), "x_1Y")
	checkExpr(t, named(strings.Repeat("x", 30)), strings.Repeat("x", 30))
	checkExpr(t, node(api.ECon, "Cons"), "Cons")
	checkExpr(t, node(api.ECon, "True"), "True")
	checkExpr(t, number(0), "0")
	checkExpr(t, number(7), "7")
	checkExpr(t, number(10200), "10200")
	checkExpr(t, number(api.MaxInt), "2147483647")
	checkExpr(t, api.Expr{Kind: api.EBool}, "false")
	checkExpr(t, api.Expr{Kind: api.EBool, N: 1}, "true")
}

func TestForms(t *testing.T) {
	x, y, z := named("x"), named("y"), node(api.ECon, "Z")
	checkExpr(t, node(api.EApp, "", x, y), "x y")
	checkExpr(t, node(api.ELam, "y", x), `\y -> x`)
	checkExpr(t, node(api.ELet, "y", x, z), "let y = x in Z")
	checkExpr(t, node(api.ETuple, "", x, z), "(x, Z)")
	checkExpr(t, node(api.ETuple, "", x, z, y), "(x, Z, y)")
	checkExpr(t, node(api.ETuple, "", x, x, x, x, x, x, x, z), "(x, x, x, x, x, x, x, Z)")
	checkExpr(t, node(api.EIf, "", x, y, z), "if x then y else Z")
	checkExpr(t, choose(x, alt("C", "", y)), "case x of {C -> y}")
	checkExpr(t, choose(x, alt("C", "a", y)), "case x of {C a -> y}")
	checkExpr(t, choose(x, alt("C", "a b a", y)), "case x of {C a b a -> y}")
	checkExpr(t, choose(x, alt("C", "a b", y), alt("D", "", z), alt("C", "c", x)),
		"case x of {C a b -> y; D -> Z; C c -> x}")
}

func TestFormsInARow(t *testing.T) {
	f, x, y := named("f"), named("x"), named("y")
	checkExpr(t, node(api.EApp, "", node(api.EApp, "", f, x), y), "f x y")
	checkExpr(t, node(api.EApp, "", f, node(api.EApp, "", x, y)), "f (x y)")
	checkExpr(t, node(api.EApp, "", node(api.EApp, "", f, node(api.EApp, "", x, x)), node(api.EApp, "", y, y)),
		"f (x x) (y y)")
	checkExpr(t, node(api.EApp, "", f, node(api.EApp, "", x, node(api.EApp, "", y, y))), "f (x (y y))")
	checkExpr(t, node(api.EApp, "", f, node(api.EApp, "", node(api.EApp, "", x, y), y)), "f (x y y)")
	checkExpr(t, node(api.EApp, "", number(1), api.Expr{Kind: api.EBool}), "1 false")
	checkExpr(t, node(api.EApp, "", node(api.ETuple, "", f, x), node(api.ETuple, "", y, y)), "(f, x) (y, y)")
	checkExpr(t, node(api.ELam, "x", node(api.ELam, "y", node(api.ELam, "x", x))), `\x -> \y -> \x -> x`)
	checkExpr(t, node(api.ELet, "x", node(api.ELet, "y", x, y), node(api.ELet, "f", x, f)),
		"let x = let y = x in y in let f = x in f")
	checkExpr(t, node(api.ELet, "f", node(api.ELam, "x", x), node(api.EApp, "", f, f)), `let f = \x -> x in f f`)
	checkExpr(t, node(api.EIf, "", node(api.EIf, "", x, x, x), node(api.EIf, "", y, y, y), node(api.EIf, "", f, f, f)),
		"if if x then x else x then if y then y else y else if f then f else f")
	checkExpr(t, choose(choose(x, alt("C", "", y)), alt("D", "", choose(y, alt("E", "z", x), alt("F", "", y))),
		alt("G", "", choose(f, alt("H", "", f)))),
		"case case x of {C -> y} of {D -> case y of {E z -> x; F -> y}; G -> case f of {H -> f}}")
	checkExpr(t, node(api.ETuple, "", node(api.ETuple, "", x, y), node(api.EApp, "", f, x), node(api.ELam, "x", x)),
		`((x, y), f x, \x -> x)`)
}

// texts tells each kind of expression with its text, atoms first, then an EApp.
func texts() ([]api.Expr, []string) {
	x, y, z := named("x"), named("y"), named("z")
	return []api.Expr{x, node(api.ECon, "C"), number(7), {Kind: api.EBool, N: 1}, node(api.ETuple, "", x, y),
			node(api.EApp, "", x, y), node(api.ELam, "x", y), node(api.ELet, "x", y, z), node(api.EIf, "", x, y, z),
			choose(x, alt("C", "y", z))},
		[]string{"x", "C", "7", "true", "(x, y)", "x y", `\x -> y`, "let x = y in z", "if x then y else z",
			"case x of {C y -> z}"}
}

const (
	atoms = 5 // of the texts
	app   = 5 // the place of the EApp
)

// TestEachKindWithinEach puts each kind in each place where an expression may stand.
func TestEachKindWithinEach(t *testing.T) {
	x := named("x")
	exprs, all := texts()
	for i, e := range exprs {
		s := all[i]
		function, argument := s, s
		if i >= atoms {
			argument = "(" + s + ")"
		}
		if i > app {
			function = argument
		}
		checkExpr(t, e, s)
		for _, c := range []struct {
			want string
			e    api.Expr
		}{
			{function + " x", node(api.EApp, "", e, x)},
			{"x " + argument, node(api.EApp, "", x, e)},
			{function + " " + argument, node(api.EApp, "", e, e)},
			{function + " x x", node(api.EApp, "", node(api.EApp, "", e, x), x)},
			{"x " + argument + " x", node(api.EApp, "", node(api.EApp, "", x, e), x)},
			{"x (" + function + " x)", node(api.EApp, "", x, node(api.EApp, "", e, x))},
			{"x (x " + argument + ")", node(api.EApp, "", x, node(api.EApp, "", x, e))},
			{`\x -> ` + s, node(api.ELam, "x", e)},
			{"let x = " + s + " in x", node(api.ELet, "x", e, x)},
			{"let x = x in " + s, node(api.ELet, "x", x, e)},
			{"(" + s + ", x)", node(api.ETuple, "", e, x)},
			{"(x, " + s + ", x)", node(api.ETuple, "", x, e, x)},
			{"(x, x, " + s + ")", node(api.ETuple, "", x, x, e)},
			{"if " + s + " then x else x", node(api.EIf, "", e, x, x)},
			{"if x then " + s + " else x", node(api.EIf, "", x, e, x)},
			{"if x then x else " + s, node(api.EIf, "", x, x, e)},
			{"case " + s + " of {C -> x}", choose(e, alt("C", "", x))},
			{"case x of {C -> " + s + "; D y -> x}", choose(x, alt("C", "", e), alt("D", "y", x))},
			{"case x of {C -> x; D y z -> " + s + "}", choose(x, alt("C", "", x), alt("D", "y z", e))},
			{"x (" + `\x -> ` + s + ")", node(api.EApp, "", x, node(api.ELam, "x", e))},
			{"(let x = x in " + s + ") x", node(api.EApp, "", node(api.ELet, "x", x, e), x)},
			{"(if x then x else " + s + ") x", node(api.EApp, "", node(api.EIf, "", x, x, e), x)},
			{"(case x of {C -> " + s + "}) (x, " + s + ")",
				node(api.EApp, "", choose(x, alt("C", "", e)), node(api.ETuple, "", x, e))},
		} {
			checkExpr(t, c.e, c.want)
		}
	}
}

func TestTypes(t *testing.T) {
	a, b, c := variable(0), variable(1), unknown("c")
	d := typ("D")
	checkTypes(t, "")
	checkTypes(t, " a", a)
	checkTypes(t, " b a", b, a)
	checkTypes(t, " D Int c", d, typ("Int"), c)
	checkTypes(t, " (D a) (D a b) (D c D)", typ("D", a), typ("D", a, b), typ("D", c, d))
	checkTypes(t, " (a, b) (a, D, c)", typ(",", a, b), typ(",", a, d, c))
	checkTypes(t, " (a -> b) (D -> c)", typ("->", a, b), typ("->", d, c))
	checkTypes(t, " (D (D (D a) b) D)", typ("D", typ("D", typ("D", a), b), d))
	checkTypes(t, " (a, a, a, a, a, a, a, b)", typ(",", a, a, a, a, a, a, a, b))
}

func TestArrows(t *testing.T) {
	a, b, d := variable(0), variable(1), typ("D")
	checkTypes(t, " (a -> b -> D)", typ("->", a, typ("->", b, d)))
	checkTypes(t, " ((a -> b) -> D)", typ("->", typ("->", a, b), d))
	checkTypes(t, " ((a -> b) -> a -> b)", typ("->", typ("->", a, b), typ("->", a, b)))
	checkTypes(t, " (((a -> b) -> a) -> b)", typ("->", typ("->", typ("->", a, b), a), b))
	checkTypes(t, " (a -> (b -> a) -> b)", typ("->", a, typ("->", typ("->", b, a), b)))
	checkTypes(t, " (D a b -> D b)", typ("->", typ("D", a, b), typ("D", b)))
	checkTypes(t, " ((a, b) -> (b, a))", typ("->", typ(",", a, b), typ(",", b, a)))
}

// TestEachTypeWithinEach puts each kind of type in each place where one may stand.
func TestEachTypeWithinEach(t *testing.T) {
	a := variable(0)
	for _, c := range []struct {
		t                 api.Type
		open, left, alone string
	}{
		{a, "a", "a", "a"},
		{unknown("c"), "c", "c", "c"},
		{typ("E"), "E", "E", "E"},
		{typ("E", a), "E a", "E a", "(E a)"},
		{typ("E", a, typ("D")), "E a D", "E a D", "(E a D)"},
		{typ(",", a, typ("E", a)), "(a, E a)", "(a, E a)", "(a, E a)"},
		{typ("->", a, variable(1)), "a -> b", "(a -> b)", "(a -> b)"},
		{typ("->", typ("E", a), typ("->", a, a)), "E a -> a -> a", "(E a -> a -> a)", "(E a -> a -> a)"},
	} {
		checkTypes(t, " "+c.alone, c.t)
		checkTypes(t, " D "+c.alone+" a", typ("D"), c.t, a)
		checkTypes(t, " (D "+c.alone+")", typ("D", c.t))
		checkTypes(t, " (D a "+c.alone+" a)", typ("D", a, c.t, a))
		checkTypes(t, " ("+c.left+" -> a)", typ("->", c.t, a))
		checkTypes(t, " (a -> "+c.open+")", typ("->", a, c.t))
		checkTypes(t, " ("+c.left+" -> "+c.open+")", typ("->", c.t, c.t))
		checkTypes(t, " (a -> "+c.left+" -> "+c.open+")", typ("->", a, typ("->", c.t, c.t)))
		checkTypes(t, " (("+c.left+" -> "+c.open+") -> a)", typ("->", typ("->", c.t, c.t), a))
		checkTypes(t, " ("+c.open+", a)", typ(",", c.t, a))
		checkTypes(t, " (a, "+c.open+", "+c.open+")", typ(",", a, c.t, c.t))
		checkTypes(t, " (D ("+c.open+", a))", typ("D", typ(",", c.t, a)))
		checkTypes(t, " (D (a -> "+c.open+"))", typ("D", typ("->", a, c.t)))
		checkTypes(t, " ((a, "+c.open+") -> D "+c.alone+")", typ("->", typ(",", a, c.t), typ("D", c.t)))
	}
}

func TestVariablesAsText(t *testing.T) {
	checkText(t, declared("a b a c", variable(3), variable(0), unknown("d"), variable(1)),
		"data D a b a c = C c a d b;\n")
	checkText(t, declared("", unknown("a"), unknown("b")), "data D = C a b;\n")
	p := api.Program{Datas: slices.Concat(declared("x y", variable(1)).Datas, declared("z", variable(0)).Datas,
		declared("", unknown("x")).Datas)}
	checkText(t, p, "data D x y = C y;\ndata D z = C z;\ndata D = C x;\n")
}

func TestProgramOfNothing(t *testing.T) {
	checkText(t, api.Program{}, "")
	checkText(t, api.Program{Datas: []api.Data{}, Binds: []api.Bind{}}, "")
}

func TestLines(t *testing.T) {
	x, a, b := named("x"), variable(0), variable(1)
	c, d2, f1 := api.Con{Name: "C", Args: []api.Type{a, b}}, api.Con{Name: "D2"}, api.Con{Name: "F"}
	f2 := api.Con{Name: "F", Args: []api.Type{a}}
	one := api.Data{Name: "D", Vars: []string{"a", "b"}, Cons: []api.Con{c, d2}}
	two := api.Data{Name: "E", Cons: []api.Con{{Name: "E"}}}
	three := api.Data{Name: "E", Vars: []string{"c"}, Cons: []api.Con{f1, f2, {Name: "G"}}}
	f, g := api.Bind{Name: "f", Body: node(api.ELam, "x", x)}, api.Bind{Name: "g", Body: number(7)}
	checkText(t, api.Program{Datas: []api.Data{one}}, "data D a b = C a b | D2;\n")
	checkText(t, api.Program{Datas: []api.Data{two}}, "data E = E;\n")
	checkText(t, api.Program{Datas: []api.Data{three, one, two}},
		"data E c = F | F c | G;\ndata D a b = C a b | D2;\ndata E = E;\n")
	checkText(t, api.Program{Binds: []api.Bind{f}}, "let f = \\x -> x;\n")
	checkText(t, api.Program{Binds: []api.Bind{g, f, g}}, "let g = 7;\nlet f = \\x -> x;\nlet g = 7;\n")
	checkText(t, api.Program{Datas: []api.Data{two, one}, Binds: []api.Bind{f, g}},
		"data E = E;\ndata D a b = C a b | D2;\nlet f = \\x -> x;\nlet g = 7;\n")
	// Whatever the places say, Datas stand ahead of Binds, and what is first is first.
	f.At, two.At, one.At = 1, 50, 20
	p := api.Program{Datas: []api.Data{two, one}, Binds: []api.Bind{f}}
	if s := Program(p); s != "data E = E;\ndata D a b = C a b | D2;\nlet f = \\x -> x;\n" {
		t.Errorf("with places: %s", said(s))
	}
}

// Expr of what is deeper, and longer, than a program may be.

// deepened tells e in n of that way, one in another.
func deepened(n, way int, e api.Expr) api.Expr {
	wrapped := ways()[way]
	for range n {
		e = wrapped(e)
	}
	return e
}

func TestExprOfWhatIsDeeper(t *testing.T) {
	const n = 5000
	for i, c := range []struct{ ahead, behind string }{
		{"", " x"}, {"x (", ")"}, {`\y -> `, ""}, {"let y = ", " in x"}, {"let y = x in ", ""}, {"(", ", x)"},
		{"(x, ", ")"}, {"(x, x, x, x, x, x, x, ", ")"}, {"if ", " then x else x"}, {"if x then ", " else x"},
		{"if x then x else ", ""}, {"case ", " of {C -> x}"}, {"case x of {C -> ", "}"},
		{"case x of {C -> ", "; D y -> x}"}, {"case x of {C -> x; D y -> ", "}"},
	} {
		for _, n := range []int{1, 59, 60, 61, n} {
			want := strings.Repeat(c.ahead, n) + "0" + strings.Repeat(c.behind, n)
			if i == 1 { // the innermost is an atom
				want = strings.Repeat(c.ahead, n-1) + "x 0" + strings.Repeat(c.behind, n-1)
			}
			if s := Expr(deepened(n, i, number(0))); s != want {
				t.Errorf("%d: %s, want %s", n, said(s), said(want))
			}
		}
	}
}

func TestExprOfMostLevels(t *testing.T) {
	const most = 1<<16 - 3
	if s := Expr(deepened(most, 0, named("x"))); s != "x"+strings.Repeat(" x", most) {
		t.Error(said(s))
	}
	if s := Expr(deepened(most, 1, named("x"))); s != strings.Repeat("x (", most-1)+"x x"+strings.Repeat(")", most-1) {
		t.Error(said(s))
	}
	if s := Expr(deepened(most, 2, named("x"))); s != strings.Repeat(`\y -> `, most)+"x" {
		t.Error(said(s))
	}
	if May(bound(deepened(most, 0, named("x")))) || Program(bound(deepened(most, 11, named("x")))) != "" {
		t.Error("too deep")
	}
	deep := variable(0)
	for range most {
		deep = typ("->", deep, typ("D"))
	}
	if p := declared("a", deep); May(p) || Program(p) != "" {
		t.Error("too deep")
	}
}

func TestExprOfWhatIsLonger(t *testing.T) {
	const n = 30000
	long := choose(named("x"), slices.Repeat([]api.Alt{alt("C", "y z", number(12))}, n)...)
	if s := Expr(long); s != "case x of {"+strings.Repeat("C y z -> 12; ", n-1)+"C y z -> 12}" {
		t.Error(said(s))
	}
	long = choose(named("x"), alt("C", strings.Repeat("y ", n+n), number(12)))
	if s := Expr(long); s != "case x of {C"+strings.Repeat(" y", n+n)+" -> 12}" {
		t.Error(said(s))
	}
}

// Promise 11.3: what Program tells says what was told.

// small tells all expressions at most so deep, with few leaves.
func small(deep int) []api.Expr {
	if deep == 1 {
		return []api.Expr{named("x"), number(0)}
	}
	l := small(1)
	in := small(deep - 1)
	for _, a := range in {
		l = append(l, node(api.ELam, "y", a))
		for _, b := range in {
			l = append(l, node(api.EApp, "", a, b), node(api.ELet, "y", a, b), node(api.ETuple, "", a, b),
				choose(a, alt("C", "y", b)), node(api.EIf, "", a, b, a))
		}
	}
	return l
}

func TestAllSmallExpressions(t *testing.T) {
	for _, e := range small(3) {
		p := bound(e)
		checkText(t, p, "let f = "+Expr(e)+";\n")
	}
}

// smallTypes tells all types at most so deep, with few leaves.
func smallTypes(deep int) []api.Type {
	l := []api.Type{variable(0), typ("D")}
	if deep == 1 {
		return l
	}
	in := smallTypes(deep - 1)
	for _, a := range in {
		l = append(l, typ("E", a))
		for _, b := range in {
			l = append(l, typ("->", a, b), typ(",", a, b), typ("E", a, b))
		}
	}
	return l
}

func TestAllSmallTypes(t *testing.T) {
	for _, y := range smallTypes(3) {
		p := declared("a", y, variable(0), y)
		checkText(t, p, Program(p))
	}
}

// TestTextsOfOne holds two texts of one program against one another: of what a text says, Program tells the same for
// any text that says it.
func TestTextsOfOne(t *testing.T) {
	next := plays.Below(112)
	for range 500 {
		p := progs.Drawn(next)
		one, other := Program(p), (&plain{}).program(p)
		if s := Program(parsed(t, other)); s != one {
			t.Fatalf("%s, want %s", said(s), said(one))
		}
		if s := Program(parsed(t, one)); s != one {
			t.Fatalf("%s, want %s", said(s), said(one))
		}
	}
}

// TestExprIsWhatStandsInAProgram holds Expr against Program.
func TestExprIsWhatStandsInAProgram(t *testing.T) {
	next := plays.Below(113)
	for range 2000 {
		e := progs.DrawnExpr(next, 1+next(7))
		want := "let f = " + Expr(e) + ";\n"
		checkText(t, bound(e), want)
		if q, _, _ := parse.Parse("let f = (" + Expr(e) + ");"); progs.Bare(q) != progs.Bare(bound(e)) {
			t.Fatal(said(want))
		}
	}
}
