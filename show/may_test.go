package show

import (
	"fmt"
	"math"
	"slices"
	"strings"
	"testing"

	"warp/api"
	"warp/plays"
	"warp/progs"
)

// Promise 11.1: what may be.

// whole tells a program that has a name, a Con in each place where one may stand; each time a new one.
func whole(t *testing.T) api.Program {
	t.Helper()
	return parsed(t, `data D a b = C a (T b c) | E (a -> b, S); data G = H;
		let f = \x -> let y = g in case K 7 of { L z u -> if true then v else w; M -> (N, 1) }; let h = f;`)
}

// names tells where a name must stand, with what a program has there.
func names(p api.Program) map[string]*string {
	m := map[string]*string{}
	x := progs.Of(p)
	for _, b := range x.Binds {
		m["Bind "+b.Name] = &b.Name
	}
	for _, d := range x.Datas {
		for i, v := range d.Vars {
			m["Vars "+v] = &d.Vars[i]
		}
	}
	for _, y := range x.Types {
		if y.Kind == api.YVar && y.N < 0 {
			m["type "+y.Name] = &y.Name
		}
	}
	for _, e := range x.Exprs {
		if e.Kind == api.EVar || e.Kind == api.ELam || e.Kind == api.ELet {
			m[fmt.Sprint("kind ", e.Kind, e.Name)] = &e.Name
		}
	}
	for _, a := range x.Alts {
		for i, name := range a.Names {
			m["Names "+name] = &a.Names[i]
		}
	}
	return m
}

// cons tells where a Con must stand, with what a program has there.
func cons(p api.Program) map[string]*string {
	m := map[string]*string{}
	x := progs.Of(p)
	for _, d := range x.Datas {
		m["Data "+d.Name] = &d.Name
	}
	for _, c := range x.Cons {
		m["Con "+c.Name] = &c.Name
	}
	for _, y := range x.Types {
		if y.Kind == api.YCon && y.Name != "->" && y.Name != "," {
			m["type "+y.Name] = &y.Name
		}
	}
	for _, e := range x.Exprs {
		if e.Kind == api.ECon {
			m["kind "+e.Name] = &e.Name
		}
	}
	for _, a := range x.Alts {
		m["Alt "+a.Con] = &a.Con
	}
	return m
}

// neither tells texts that are no names and no Cons.
func neither() []string {
	return []string{"", "data", "let", "in", "if", "then", "else", "case", "of", "true", "false", "_", "_a", "1", "7x",
		" ", " x", "x ", "X ", " X", "x y", "X y", "x-", "x--", "x'", "é", "xé", "Xé", "x\n", "\x00", "x\x00", "(x)",
		"x;", "->", ",", "=", `\`, "-", "--", "x,", strings.Repeat("x", 31), strings.Repeat("X", 31),
		"x" + strings.Repeat("_", 30), strings.Repeat("Xy", 5000)}
}

func someNames() []string {
	return []string{"x", "z9", "lets", "ofx", "data_", "tRUE", "x_1Y", "q__", strings.Repeat("x", 30)}
}

func someCons() []string {
	return []string{"X", "Z9", "Let", "DATA", "True", "X_1y", "Int", strings.Repeat("X", 30)}
}

func TestNamesAndCons(t *testing.T) {
	p := whole(t)
	for kind, m := range []map[string]*string{names(p), cons(p)} {
		if want := []int{13, 11}[kind]; len(m) != want {
			t.Errorf("the test itself is wrong: %d places, not %d", len(m), want)
		}
		for where, s := range m {
			old := *s
			for _, one := range slices.Concat(neither(), someNames(), someCons()) {
				*s = one
				may := kind == 0 && slices.Contains(someNames(), one) || kind == 1 && slices.Contains(someCons(), one)
				// A YCon of two kids that is named as a sign is one of that sign.
				may = may || where == "type T" && (one == "->" || one == ",")
				if May(p) != may || (Program(p) != "") != may {
					t.Errorf("%s: %s: %v", where, said(one), !may)
				}
			}
			*s = old
		}
	}
	checkMay(t, p)
}

// kindsOfExpr tells for each kind one that may be.
func kindsOfExpr() []api.Expr {
	x, y := named("x"), node(api.ECon, "Y")
	return []api.Expr{x, y, number(5), {Kind: api.EBool, N: 1}, node(api.EApp, "", x, y), node(api.ELam, "z", x),
		node(api.ELet, "z", x, y), node(api.ETuple, "", x, y, x), node(api.EIf, "", x, y, x),
		choose(x, alt("C", "", y)), choose(x, alt("C", "x x", y), alt("C", "", y))}
}

func TestEachFieldOfExpr(t *testing.T) {
	has := func(kind int, l ...int) bool { return slices.Contains(l, kind) }
	for _, e := range kindsOfExpr() {
		checkMay(t, bound(e))
		for _, name := range []string{"", "x", "X", "let", "true"} {
			was := e.Name
			e.Name = name
			checkIf(t, name == "x" && has(e.Kind, api.EVar, api.ELam, api.ELet) || name == "X" && e.Kind == api.ECon ||
				name == "" && !has(e.Kind, api.EVar, api.ECon, api.ELam, api.ELet), bound(e))
			e.Name = was
		}
		for _, n := range []int{0, 1, 2, -1, -2, api.MaxInt, api.MaxInt + 1, 1<<32 + 1, math.MinInt, math.MaxInt} {
			was := e.N
			e.N = n
			checkIf(t, n == 0 || n == 1 && e.Kind == api.EBool || n > 0 && n <= api.MaxInt && e.Kind == api.EInt,
				bound(e))
			e.N = was
		}
		for n := range 12 {
			was := e.Kids
			e.Kids = slices.Repeat([]api.Expr{named("x")}, n)
			checkIf(t, n == len(was) || e.Kind == api.ETuple && n >= 2 && n <= 8, bound(e))
			e.Kids = was
		}
		for n := range 4 {
			was := e.Alts
			e.Alts = slices.Repeat([]api.Alt{alt("C", "x", named("x"))}, n)
			checkIf(t, (n == 0) == (e.Kind != api.ECase), bound(e))
			e.Alts = was
		}
		for _, at := range []int{1, -1, 77, math.MinInt, math.MaxInt} {
			e.At = at
			checkMay(t, bound(e))
		}
	}
}

func TestKindsThatThereAreNot(t *testing.T) {
	for _, kind := range []int{0, -1, 11, 12, 77, -7, 256 + api.EVar, 1<<32 + api.EVar, math.MinInt, math.MaxInt} {
		for _, e := range kindsOfExpr() {
			e.Kind = kind
			checkMayNot(t, bound(e))
			checkMayNot(t, bound(node(api.EApp, "", named("x"), e)))
		}
		if kind == 0 || kind > 2 || kind < 0 {
			for _, y := range kindsOfType() {
				y.Kind = kind
				checkMayNot(t, declared("a b", y))
				checkMayNot(t, declared("a b", typ("D", y)))
			}
		}
	}
	for _, e := range kindsOfExpr() {
		was := e.Kind
		for e.Kind = api.EVar; e.Kind <= api.ECase; e.Kind++ {
			checkIf(t, sayable(bound(e)), bound(e))
		}
		e.Kind = was
		checkMay(t, bound(e))
	}
}

// ways tells the ways to have an expression within another one, each at another place.
func ways() []func(e api.Expr) api.Expr {
	x := named("x")
	return []func(e api.Expr) api.Expr{
		func(e api.Expr) api.Expr { return node(api.EApp, "", e, x) },
		func(e api.Expr) api.Expr { return node(api.EApp, "", x, e) },
		func(e api.Expr) api.Expr { return node(api.ELam, "y", e) },
		func(e api.Expr) api.Expr { return node(api.ELet, "y", e, x) },
		func(e api.Expr) api.Expr { return node(api.ELet, "y", x, e) },
		func(e api.Expr) api.Expr { return node(api.ETuple, "", e, x) },
		func(e api.Expr) api.Expr { return node(api.ETuple, "", x, e) },
		func(e api.Expr) api.Expr { return node(api.ETuple, "", x, x, x, x, x, x, x, e) },
		func(e api.Expr) api.Expr { return node(api.EIf, "", e, x, x) },
		func(e api.Expr) api.Expr { return node(api.EIf, "", x, e, x) },
		func(e api.Expr) api.Expr { return node(api.EIf, "", x, x, e) },
		func(e api.Expr) api.Expr { return choose(e, alt("C", "", x)) },
		func(e api.Expr) api.Expr { return choose(x, alt("C", "", e)) },
		func(e api.Expr) api.Expr { return choose(x, alt("C", "", e), alt("D", "y", x)) },
		func(e api.Expr) api.Expr { return choose(x, alt("C", "", x), alt("D", "y", e)) },
	}
}

// wraps tells expressions that have e within, each by another way.
func wraps(e api.Expr) []api.Expr {
	var l []api.Expr
	for _, way := range ways() {
		l = append(l, way(e))
	}
	return l
}

func TestWhatIsWithinMustBeToo(t *testing.T) {
	for _, e := range wraps(named("x")) {
		checkMay(t, bound(e))
	}
	for _, wrong := range []api.Expr{{}, named(""), named("X"), number(-1), {Kind: api.EBool, N: 2},
		node(api.ETuple, "", named("x")), choose(named("x")), {Kind: 11}, node(api.EApp, "", named("x"), number(-1)),
		choose(named("x"), alt("c", "", named("x"))), choose(named("x"), alt("C", "x D", named("x"))),
		choose(named("x"), api.Alt{}), choose(named("x"), api.Alt{Con: "C"}),
		choose(named("x"), alt("", "", named("x"))),
		choose(named("x"), alt("C", "x", named("x")), api.Alt{Con: "C", Names: []string{""}, Body: named("x")})} {
		checkMayNot(t, bound(wrong))
		for _, e := range wraps(wrong) {
			checkMayNot(t, bound(e))
			checkMayNot(t, bound(node(api.ELam, "x", e)))
		}
		for i := range 3 {
			p := api.Program{Binds: slices.Repeat(bound(named("x")).Binds, 3)}
			p.Binds[i].Body = wrong
			checkMayNot(t, p)
		}
	}
}

// kindsOfType tells for each kind one that may be where Vars are a and b.
func kindsOfType() []api.Type {
	a, b := variable(0), variable(1)
	return []api.Type{a, b, unknown("c"), typ("D"), typ("D", a), typ("D", a, b, a), typ("->", a, b), typ(",", a, b),
		typ(",", a, b, a)}
}

func TestEachFieldOfAType(t *testing.T) {
	for _, y := range kindsOfType() {
		checkMay(t, declared("a b", y))
		for n := range 12 {
			was := y.Kids
			y.Kids = slices.Repeat([]api.Type{variable(1)}, n)
			checkIf(t, n == 0 && y.Kind == api.YVar || y.Name == "D" || n == 2 && y.Name == "->" ||
				n >= 2 && n <= 8 && y.Name == ",", declared("a b", y))
			y.Kids = was
		}
		for n := -3; n < 5; n++ {
			was := y.N
			y.N = n
			may := n == 0 && y.Kind == api.YCon || n == -1 && y.Name == "c" || y.Kind == api.YVar && y.Name == "" &&
				(n == 0 || n == 1)
			checkIf(t, may, declared("a b", y))
			y.N = was
		}
		for _, name := range []string{"", "a", "c", "D", "->", ",", "let", "=>", ",,", "-> ", "="} {
			was := y.Name
			y.Name = name
			checkIf(t, sayable(declared("a b", y)), declared("a b", y))
			y.Name = was
		}
		for _, kind := range []int{0, api.YVar, api.YCon, 3, -1} {
			was := y.Kind
			y.Kind = kind
			checkIf(t, kind == was, declared("a b", y))
			y.Kind = was
		}
	}
	checkMay(t, declared("", typ("D", slices.Repeat([]api.Type{typ("E")}, 5000)...)))
}

func TestVariablesOfTypes(t *testing.T) {
	for _, c := range []struct {
		vars string
		n    int
		name string
		may  bool
	}{
		{"a", 0, "", true}, {"a", 1, "", false}, {"a", -1, "", false}, {"a", -1, "a", false}, {"a", -1, "b", true},
		{"a", -2, "b", false}, {"a", 0, "a", false}, {"a", 0, "b", false}, {"a", 1, "b", false}, {"a", -2, "", false},
		{"a", math.MinInt, "", false}, {"a", math.MaxInt, "", false}, {"a", math.MinInt, "b", false},
		{"a", 1 << 32, "", false}, {"a", -1, "B", false}, {"a", -1, "let", false}, {"a", -1, "->", false},
		{"a", -1, ",", false}, {"a", 0, "->", false}, {"a", 0, ",", false}, {"a", -1, strings.Repeat("b", 30), true},
		{"a", -1, strings.Repeat("b", 31), false}, {"a", -1, "b c", false}, {"a", -1, "_", false},
		{"", 0, "", false}, {"", -1, "", false}, {"", -1, "a", true}, {"", 1, "", false}, {"", 0, "a", false},
		{"a b a c b", 0, "", true}, {"a b a c b", 1, "", true}, {"a b a c b", 2, "", false},
		{"a b a c b", 3, "", true}, {"a b a c b", 4, "", false}, {"a b a c b", 5, "", false},
		{"a b a c b", -1, "a", false}, {"a b a c b", -1, "c", false}, {"a b a c b", -1, "d", true},
		{"a a a", 0, "", true}, {"a a a", 1, "", false}, {"a a a", 2, "", false}, {"aa a", 1, "", true},
		{"aa a", -1, "aaa", true}, {"aa a", -1, "aa", false},
	} {
		y := api.Type{Kind: api.YVar, N: c.n, Name: c.name}
		for _, p := range []api.Program{declared(c.vars, y), declared(c.vars, typ("D"), y),
			declared(c.vars, typ("D", y)), declared(c.vars, typ("->", typ("D"), typ(",", typ("D"), y)))} {
			if May(p) != c.may || (Program(p) != "") != c.may {
				t.Errorf("%+v: %v", c, May(p))
			}
		}
		// Those of the Datas ahead and behind do not count.
		p := declared(c.vars, y)
		p.Datas = slices.Concat(declared("d e f g", variable(3)).Datas, p.Datas, declared("b a h", variable(2)).Datas)
		checkIf(t, c.may, p)
	}
}

func TestManyVariables(t *testing.T) {
	var l []api.Type
	vars := ""
	for i := range 4000 {
		vars += fmt.Sprintf(" v%d", i)
		l = append(l, variable(3999-i))
	}
	checkMay(t, declared(vars, l...))
	checkMayNot(t, declared(vars, append(l, variable(4000))...))
	checkMayNot(t, declared(vars+" v7", append(l, variable(4000))...))
	checkMay(t, declared(vars+" v7", l...))
}

func TestTypesWithinMustBeToo(t *testing.T) {
	a := variable(0)
	for _, wrong := range []api.Type{{}, {Kind: 3}, typ(""), typ("d"), typ("let"), typ("->", a), typ(",", a), typ("->"),
		typ(","), typ("->", a, a, a), variable(2), unknown("a"), unknown("X"), {Kind: api.YVar, Kids: []api.Type{a}}} {
		for _, y := range []api.Type{wrong, typ("D", wrong), typ("D", a, wrong), typ("->", wrong, a),
			typ("->", a, wrong), typ(",", wrong, a), typ(",", a, a, a, a, a, a, a, wrong), typ("D", typ("D", wrong)),
			typ("->", a, typ("->", a, wrong)), typ("->", typ(",", a, wrong), a)} {
			checkMayNot(t, declared("a b", y))
			checkMayNot(t, declared("a b", a, y))
			checkMayNot(t, declared("a b", y, a))
		}
	}
}

func TestDatas(t *testing.T) {
	c, d := api.Con{Name: "C"}, api.Con{Name: "d"}
	for _, x := range []struct {
		l   []api.Data
		may bool
	}{
		{nil, true}, {[]api.Data{}, true}, {[]api.Data{{}}, false}, {[]api.Data{{Name: "D"}}, false},
		{[]api.Data{{Name: "D", Vars: []string{"a"}, Cons: []api.Con{}}}, false},
		{[]api.Data{{Name: "D", Cons: []api.Con{c}}}, true}, {[]api.Data{{Cons: []api.Con{c}}}, false},
		{[]api.Data{{Name: "d", Cons: []api.Con{c}}}, false}, {[]api.Data{{Name: "D", Cons: []api.Con{d}}}, false},
		{[]api.Data{{Name: "D", Cons: []api.Con{c, d}}}, false},
		{[]api.Data{{Name: "D", Cons: []api.Con{d, c}}}, false},
		{[]api.Data{{Name: "D", Cons: []api.Con{c, c}}, {Name: "D", Cons: []api.Con{c}}}, true},
		{[]api.Data{{Name: "D", Cons: []api.Con{c}}, {Name: "E"}}, false},
		{[]api.Data{{Name: "E"}, {Name: "D", Cons: []api.Con{c}}}, false},
		{[]api.Data{{Name: "D", Vars: []string{"a", "a", "a"}, Cons: []api.Con{c}}}, true},
		{[]api.Data{{Name: "D", Vars: []string{"a", "", "a"}, Cons: []api.Con{c}}}, false},
		{[]api.Data{{Name: "D", Vars: []string{"a", "A"}, Cons: []api.Con{c}}}, false},
		{[]api.Data{{Name: "D", Cons: []api.Con{{}}}}, false}, {[]api.Data{{Name: "Int", Cons: []api.Con{c}}}, true},
	} {
		checkIf(t, x.may, api.Program{Datas: x.l})
		checkIf(t, x.may, api.Program{Datas: x.l, Binds: bound(named("x")).Binds})
		checkMayNot(t, api.Program{Datas: x.l, Binds: bound(named("X")).Binds})
	}
}

// How deep may be.

func TestDeepBodies(t *testing.T) {
	for _, way := range ways() {
		e := named("x")
		for range api.MaxDeep - 1 {
			checkMay(t, bound(e))
			e = way(e)
		}
		checkMay(t, bound(e))
		p := bound(way(e))
		checkMayNot(t, p)
		checkMayNot(t, api.Program{Binds: append(bound(named("x")).Binds, p.Binds...)})
		checkMayNot(t, api.Program{Binds: append(p.Binds, bound(named("x")).Binds...)})
		if s := Expr(p.Binds[0].Body); s == "" {
			t.Error("no text of what is deeper")
		}
	}
}

func TestDeepTypes(t *testing.T) {
	a := variable(0)
	for i, wrap := range []func(api.Type) api.Type{
		func(y api.Type) api.Type { return typ("D", y) },
		func(y api.Type) api.Type { return typ("D", a, y, a) },
		func(y api.Type) api.Type { return typ("->", y, a) },
		func(y api.Type) api.Type { return typ("->", a, y) },
		func(y api.Type) api.Type { return typ(",", y, a) },
		func(y api.Type) api.Type { return typ(",", a, a, a, a, a, a, a, y) },
	} {
		for _, y := range []api.Type{a, typ("D"), unknown("c")} {
			for range api.MaxDeep - 1 {
				checkMay(t, declared("a", y))
				y = wrap(y)
			}
			checkMay(t, declared("a", y))
			checkMay(t, declared("a", a, y, y))
			if may := May(declared("a", wrap(y))) || May(declared("a", a, wrap(y))); may {
				t.Errorf("type %d is too deep", i)
			}
			checkMayNot(t, api.Program{Datas: append(declared("a").Datas, declared("a", wrap(y)).Datas...)})
		}
	}
}

// How long may be.

// filled tells p with Binds behind it, so that the text of all has n bytes: a Bind has from 11 to 40.
func filled(p api.Program, n int) api.Program {
	p.Binds = slices.Clip(p.Binds)
	add := func(bytes int) {
		p.Binds = append(p.Binds, api.Bind{Name: strings.Repeat("g", bytes-10), Body: named("x")})
		n -= bytes
	}
	for n -= len(Program(p)); n > 51; {
		add(40)
	}
	if n > 40 {
		add(11)
	}
	add(n)
	return p
}

func TestLongTexts(t *testing.T) {
	x, a := named("x"), variable(0)
	for i, p := range []api.Program{
		{},
		{Binds: slices.Repeat(bound(x).Binds, 5000)},
		{Binds: slices.Repeat(bound(choose(x, alt("C", "x y", node(api.EIf, "", x, x, number(1<<20))))).Binds, 1000)},
		{Binds: slices.Repeat(bound(node(api.ETuple, "", wraps(x)[:8]...)).Binds, 400)},
		{Binds: slices.Repeat(bound(node(api.EApp, "", wraps(x)[2], wraps(x)[13])).Binds, 1000)},
		bound(choose(x, alt("C", strings.Repeat("x ", 30000), x))),
		bound(choose(x, slices.Repeat([]api.Alt{alt("C", "", x)}, 6000)...)),
		{Datas: slices.Repeat(declared("").Datas, 4000)},
		{Datas: slices.Repeat(declared("a b", typ("->", typ("->", a, a), a), typ(",", typ("D", a), a)).Datas, 1500)},
		{Datas: []api.Data{{Name: "D", Cons: slices.Repeat([]api.Con{{Name: "C"}}, 15000)}}},
		declared(strings.Repeat("a ", 30000)),
		declared("a", slices.Repeat([]api.Type{a}, 30000)...),
		declared("a", typ("D", slices.Repeat([]api.Type{typ("D", a)}, 10000)...)),
	} {
		if n := len(Program(p)); n > 65400 || n < 40000 && i > 0 {
			t.Errorf("the test itself is wrong: program %d has %d bytes", i, n)
		}
		for n := api.MaxSrc - 12; n <= api.MaxSrc+3; n++ {
			q := filled(p, n)
			may, s := n <= api.MaxSrc, Program(q)
			if May(q) != may || may && len(s) != n || !may && s != "" {
				t.Errorf("program %d with %d bytes: %v, %s", i, n, May(q), said(s))
			}
		}
	}
	for _, n := range []int{6000, 60000, 500000} {
		p, d := api.Program{Binds: slices.Repeat(bound(x).Binds, n)}, typ("D")
		if May(p) || May(declared("", slices.Repeat([]api.Type{typ("D", d, d, d, d)}, n)...)) {
			t.Errorf("%d are too many", n)
		}
	}
}

func TestTextsThatGrowTooLong(t *testing.T) {
	// `\x y -> ..` is told as `\x -> \y -> ..`: a text of fewer bytes than may be says what may not.
	src := strings.Repeat(`let f a b c d e f g h i j k l m n o p q r s t u v w x y z=a;`, 1000)
	p := parsed(t, src)
	checkMayNot(t, p)
	p.Binds = p.Binds[:300]
	checkMay(t, p)
	src = strings.Repeat("data D=C|C|C|C|C|C|C|C|C|C|C|C|C|C|C|C;", 1600)
	checkMayNot(t, parsed(t, src))
	checkMay(t, parsed(t, src[:len(src)/4]))
}

// Each small change of drawn programs.

// one tells one of l: a new one, if there is none.
func one[T any](next func(int) int, l []*T) *T {
	if len(l) == 0 {
		return new(T)
	}
	return l[next(len(l))]
}

// others tells what changes one thing of a drawn program.
func others(next func(int) int) []func(x *progs.Parts) {
	name := func() string { return []string{"x", "y", "f", "C", "Nil", "", "->", ",", "let", "a b", "7"}[next(11)] }
	number := func() int { return []int{0, 1, 2, 3, -1, -2, api.MaxInt, api.MaxInt + 1}[next(8)] }
	return []func(x *progs.Parts){
		func(x *progs.Parts) { one(next, x.Datas).Name = name() },
		func(x *progs.Parts) { d := one(next, x.Datas); d.Vars = append(d.Vars, name()) },
		func(x *progs.Parts) { d := one(next, x.Datas); d.Vars = d.Vars[:next(len(d.Vars)+1)] },
		func(x *progs.Parts) { one(next, x.Datas).Cons = nil },
		func(x *progs.Parts) { one(next, x.Cons).Name = name() },
		func(x *progs.Parts) { c := one(next, x.Cons); c.Args = append(c.Args, *one(next, x.Types)) },
		func(x *progs.Parts) { one(next, x.Types).Name = name() },
		func(x *progs.Parts) { one(next, x.Types).N = number() },
		func(x *progs.Parts) { one(next, x.Types).Kind = next(4) },
		func(x *progs.Parts) { y := one(next, x.Types); y.Kids = y.Kids[:next(len(y.Kids)+1)] },
		func(x *progs.Parts) { y := one(next, x.Types); y.Kids = append(y.Kids, variable(0)) },
		func(x *progs.Parts) { one(next, x.Binds).Name = name() },
		func(x *progs.Parts) { one(next, x.Exprs).Name = name() },
		func(x *progs.Parts) { one(next, x.Exprs).N = number() },
		func(x *progs.Parts) { one(next, x.Exprs).Kind = next(12) },
		func(x *progs.Parts) { e := one(next, x.Exprs); e.Kids = e.Kids[:next(len(e.Kids)+1)] },
		func(x *progs.Parts) { e := one(next, x.Exprs); e.Kids = append(e.Kids, named("x")) },
		func(x *progs.Parts) { e := one(next, x.Exprs); e.Alts = append(e.Alts, alt("C", "x", named("y"))) },
		func(x *progs.Parts) { e := one(next, x.Exprs); e.Alts = e.Alts[:next(len(e.Alts)+1)] },
		func(x *progs.Parts) { one(next, x.Alts).Con = name() },
		func(x *progs.Parts) { a := one(next, x.Alts); a.Names = append(a.Names, name()) },
	}
}

// changed tells a drawn program with some things changed.
func changed(next func(int) int, times int) api.Program {
	p := progs.Drawn(next)
	for range times {
		l := others(next)
		l[next(len(l))](progs.Of(p))
	}
	return p
}

// TestDrawnPrograms holds May of drawn programs, and of those with something changed, against whether a text says them.
func TestDrawnPrograms(t *testing.T) {
	next, count := plays.Below(111), make([]int, 2)
	for i := range 15000 {
		p := changed(next, i%3)
		may := sayable(p)
		checkIf(t, may, p)
		if may {
			count[min(i%3, 1)]++
			checkText(t, p, Program(p))
		}
		if t.Failed() {
			t.Fatalf("program %d", i)
		}
	}
	if count[0] < 5000 || count[1] < 2000 || count[1] > 8000 {
		t.Errorf("%d that may be unchanged, %d changed", count[0], count[1])
	}
}
