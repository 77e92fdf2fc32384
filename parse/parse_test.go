package parse

import (
	"fmt"
	"slices"
	"strings"
	"testing"
	"unsafe"

	"warp/api"
	"warp/lists"
	"warp/plays"
	"warp/progs"
)

// checkHat checks that nothing can go on behind the `^` of each text, which is left out.
func checkHat(t *testing.T, texts ...string) {
	t.Helper()
	for _, src := range texts {
		ahead, behind, _ := strings.Cut(src, "^")
		checkToken(t, ahead+behind, len(ahead))
		checkToken(t, ahead+"\n--;\n"+behind, len(ahead)+5)
	}
}

// Promise 10.1: what a program is. (Each form with tokens changed: see TestFormsWithOneTokenChanged.)

func TestEmptyProgram(t *testing.T) {
	for _, src := range []string{"", " ", "\t", "\n", "  \n\t \n", "--", "--\n", "-- let x = 1;", "--\n--x\n \n--",
		strings.Repeat(" ", 1<<16), strings.Repeat("\n", 1<<16), strings.Repeat("-", 1<<16),
		strings.Repeat("--\n", 1<<16/3)} {
		check(t, src, api.Program{})
	}
}

func TestDeclarations(t *testing.T) {
	check(t, "let x=1;", binds(bind(4, "x", eint(6, 1))))
	check(t, "let x = y; let x = C; let y = true;",
		binds(bind(4, "x", evar(8, "y")), bind(15, "x", econ(19, "C")), bind(26, "y", ebool(30, 1))))
	check(t, "data D=C;", datas(data(5, "D", "", con(7, "C"))))
	check(t, "data D a = C a|D|C D a;data D=D;",
		datas(data(5, "D", "a", con(11, "C", yvar(0)), con(15, "D"), con(17, "C", ycon("D"), yvar(0))),
			data(28, "D", "", con(30, "D"))))
	check(t, "let f = 0; data D = C; let g = 1; data E = E;", api.Program{
		Datas: []api.Data{data(16, "D", "", con(20, "C")), data(39, "E", "", con(43, "E"))},
		Binds: []api.Bind{bind(4, "f", eint(8, 0)), bind(27, "g", eint(31, 1))},
	})
}

func TestManyOfWhatIsRepeated(t *testing.T) {
	const n = 5000
	if p := checkMay(t, strings.Repeat("let x=1;", n)); len(p.Binds) != n || p.Binds[n-1].At != 8*n-4 {
		t.Error("Binds")
	}
	if p := checkMay(t, strings.Repeat("data D=C;", n)); len(p.Datas) != n || p.Datas[n-1].Cons[0].At != 9*n-2 {
		t.Error("Datas")
	}
	p := checkMay(t, "data D"+strings.Repeat(" a", n)+"=C"+strings.Repeat(" a", n)+strings.Repeat("|D", n)+";")
	if d := p.Datas[0]; len(d.Vars) != n || len(d.Cons) != n+1 || len(d.Cons[0].Args) != n || len(d.Cons[n].Args) != 0 {
		t.Error("of a Data")
	}
	p = checkMay(t, "let x = case y of { C"+strings.Repeat(" a", n)+"->1"+strings.Repeat(";D->2", n)+"};")
	if e := p.Binds[0].Body; len(e.Alts) != n+1 || len(e.Alts[0].Names) != n || e.Alts[n].Body.N != 2 {
		t.Error("of a case")
	}
}

func TestNamesWhereConsMustStand(t *testing.T) {
	checkHat(t, "data ^d = C;", "data D = ^c;", "data D = C | ^c;", "data D = C | ^c a;",
		"let x = case y of { ^c -> 1 };", "let x = case y of { C -> 1; ^c -> 1 };")
}

func TestConsWhereNamesMustStand(t *testing.T) {
	checkHat(t, "let ^X = 1;", "let x ^X = 1;", "let x y ^X = 1;", "data D ^A = C;", "data D a ^A = C;",
		`let x = \ ^X -> 1;`, `let x = \y ^X -> 1;`, "let x = let ^X = 1 in 1;", "let x = let y ^X = 1 in 1;",
		"let x = case y of { C ^X -> 1 };", "let x = case y of { C x ^X -> 1 };")
}

// Promise 10.2: what is told of what is no program.

func TestErrorsOfLex(t *testing.T) {
	for _, s := range []string{"?", "-", "_a", "007", "2147483648", strings.Repeat("x", 31), "\x00", "\xff", "é"} {
		for _, ahead := range []string{"", "let x = 1; ", ") ", "in in in ", "let x = ( ", "let x = 1 ", "data data "} {
			for _, behind := range []string{"", ";", " )", " in ?", " let x = 1;"} {
				checkWrong(t, ahead+s+behind, api.ErrLex, len(ahead))
			}
		}
		checkWrong(t, "let x = "+strings.Repeat(`\x->`, 70)+"1; "+s, api.ErrLex, 8+70*4+3)
	}
	for _, s := range []string{" ", "(", "?", "x", ";", "\n"} {
		checkWrong(t, strings.Repeat(s, 1<<16+1), api.ErrArg, 0)
		checkWrong(t, strings.Repeat(s, 1<<17), api.ErrArg, 0)
	}
}

func TestTheFirstTokenIsWrong(t *testing.T) {
	checkHat(t, "^x", "^X = 1;", "^7", "^in", "^if x then y else z;", "^case x of { C -> 1 };", "^;", "^(", "^= 1;",
		`^\x -> x;`, " --\n ^true", "^{", "^-> x", "^, let x = 1;", "^) let x = 1;", "^| C", "^} let x = 1;")
}

func TestATokenOfABindIsWrong(t *testing.T) {
	checkHat(t, "let ^let x = 1;", "let x ^-> 1;", "let x = ^= 1;", "let x = y ^= 1; let z = 2;", "let ^= 1;", "let ^;",
		"let x = 1;^; let y = 2;", "let x = 1; ^x = 2; let y = 3;", "let ^(x) = 1;", "let x ^(y) = 1;",
		"let x ^; let y = 2;", "let x ^7 = 1;", "let x = 1 ^let y = 2;", "let x = 1 ^data D = C;",
		"let x = ^; let y = 2;", "let x = let^;", "let x = 1; ^in", "let x = 1^)", "let x = 1; let^;",
		"let x = 1; let y = 2 ^|")
}

func TestATokenOfAnExpressionIsWrong(t *testing.T) {
	checkHat(t, "let x = (1 ^; 2); let y = 3;", "let x = (^) y;", "let x = (^, 1);", "let x = (1, ^, 2);",
		"let x = (1, ^);", "let x = 1 ^);", "let x = 1 ^, 2;", "let x = ((1) ^= 2);", "let x = y (1^;",
		"let x = y ^in y;", `let x = y ^\z -> z;`, "let x = y ^if z then z else z;", "let x = y ^case z of { C -> z };",
		"let x = y (z) ^if z then z else z;", `let x = \ ^-> 1;`, `let x = \y ^= 1;`, `let x = \y ^7;`,
		`let x = \^(y) -> 1;`, `let x = \y -> ^;`, `let x = \y ^\z -> 1;`, `let x = \y -> ^-> 1;`,
		`let x = (\y -> y ^-> 1);`, "let x = ^then;", "let x = 7 ^else 1;", "let x = y ^| z;", "let x = y ^{ z };",
		"let x = ^{ z };")
	checkHat(t, "let x = let y = 1 ^; in y;", "let x = let ^in y;", "let x = let y ^in y;", "let x = let y = ^in y;",
		"let x = let y = 1 in ^;", "let x = let y = 1 in y ^in y;", "let x = let y = 1 in let z = 2 ^;",
		"let x = if ^then 1 else 2;", "let x = if y ^else 2;", "let x = if y then ^else 2;", "let x = if y then 1 ^;",
		"let x = if y then 1 else ^;", "let x = if y ^;", "let x = if y then 1 ^then 2;",
		"let x = if y then 1 else 2 ^else 3;", "let x = (if y ^) then 1 else 2;", "let x = if if y then 1 ^then 2;")
	checkHat(t, "let x = case ^of { C -> 1 };", "let x = case y ^{ C -> 1 };", "let x = case y of ^C -> 1;",
		"let x = case y of {^};", "let x = case y of { ^; C -> 1 };", "let x = case y of { C ^};",
		"let x = case y of { C -> ^};", "let x = case y of { C -> 1 ^-> 2 };", "let x = case y of { C -> 1; ^};",
		"let x = case y of { C ^= 1 };", "let x = case y of { C ^(x) -> 1 };", "let x = case y of { C -> 1 ^);",
		"let x = case y of { ^7 -> 1 };", "let x = case y of { ^true -> 1 };", "let x = case y of { ^(C) -> 1 };",
		"let x = case y of { C -> 1 } ^};", "let x = case y of { C -> 1 } ^z;",
		"let x = case y of { C -> 1; ^; D -> 2 };", "let x = case y of { C -> 1 ^| D -> 2 };",
		"let x = (case y of { C -> 1 ^)};", "let x = case y of { C -> case y of { C -> 1 }} ^};")
}

func TestATokenOfADataIsWrong(t *testing.T) {
	checkHat(t, "data ^= C;", "data D ^-> C;", "data D = ^;", "data D = ^| C;", "data D = C |^;", "data D = C ^, D;",
		"data D = C ^-> D;", "data D ^| C;", "data D ^;", "data D = C ^= D;", "data D = C a ^= D;", "data D = C ^7;",
		"data D = C ^data E = E;", "data D = C ^let x = 1;", "data D = C | ^| D;", "data D ^(a) = C;",
		"data D = C; ^C", "data D = C;^;", "data D = C ^)", "data^;", "data D = ^(C);")
	checkHat(t, "data D = C (^);", "data D = C (a,^);", "data D = C (a ->^);", "data D = C (^-> a);",
		"data D = C (^, a);", "data D = C (a ^(b) -> c);", "data D = C (a -> ^-> b);", "data D = C (^true);",
		"data D = C (a ^b);", "data D = C (^7);", "data D = C ((a) ^b);", "data D = C ((a, b) ^c);",
		"data D = C ((a -> b) ^C);", "data D = C (a -> b ^C);", "data D = C (a ^;", "data D = C (a, b ^;",
		"data D = C (a ^| D);", "data D = C (C a ^= b);", "data D = C (a)^);", `data D = C (^\a -> b);`,
		"data D = C a (b ^in);")
}

func TestTheEndWhereMoreMustCome(t *testing.T) {
	for _, src := range []string{"let", "let x", "let x y", "let x =", "let x = y", "let x = y z", "let x = (",
		"let x = (y", "let x = (y,", "let x = (y, z", "let x = (y)", `let x = \`, `let x = \y`, `let x = \y z`,
		`let x = \y ->`, `let x = \y -> y`, "let x = let", "let x = let y", "let x = let y =", "let x = let y = 1",
		"let x = let y = 1 in", "let x = let y = 1 in y", "let x = if", "let x = if y", "let x = if y then",
		"let x = if y then 1", "let x = if y then 1 else", "let x = if y then 1 else 2", "let x = case",
		"let x = case y", "let x = case y of", "let x = case y of {", "let x = case y of { C",
		"let x = case y of { C x", "let x = case y of { C ->", "let x = case y of { C -> 1",
		"let x = case y of { C -> 1;", "let x = case y of { C -> 1}", "data", "data D", "data D a", "data D =",
		"data D = C", "data D = C a", "data D = C |", "data D = C | D", "data D = C (", "data D = C (a",
		"data D = C (a ->", "data D = C (a -> b", "data D = C (a,", "data D = C (a, b", "data D = C (a)",
		"data D = C (C", "data D = C (C a"} {
		for _, ahead := range []string{"", "let z = 1;", "data Z = Z; "} {
			for _, behind := range []string{"", " ", "\n", "\t \n", "--", " -- ;", "\n--;\n\n",
				"--" + strings.Repeat("-", 60000)} {
				checkToken(t, ahead+src+behind, len(ahead+src+behind))
			}
		}
	}
}

// tuple tells a bracket of n parts.
func tuple(part string, n int) string {
	return "(" + strings.Join(slices.Repeat([]string{part}, n), ", ") + ")"
}

func TestBracketsOfMostParts(t *testing.T) {
	for n := 1; n <= 12; n++ {
		for _, part := range []string{"x", "(x, y)", tuple("x", 8), "((x))"} {
			for _, form := range []string{"let q = ^;", "let q = f (^) (x);", "let q = (x, ^, z);", "data D x = C ^;",
				"data D = C x (x -> ^) y;", "data D = C (x, D ^);", "data D x y = C | D (^ -> x);"} {
				ahead, behind, _ := strings.Cut(form, "^")
				src := ahead + tuple(part, n) + behind
				if n <= api.MaxTuple {
					checkMay(t, src)
				} else {
					checkToken(t, src, len(ahead)+8*len(part)+1+7*2)
				}
			}
		}
	}
	checkHat(t, "let x = (1,2,3,4,5,6,7,8 ^, );", "let x = (1,2,3,4,5,6,7,8 ^, in", "let x = ((1,2,3,4,5,6,7,8 ^, 9",
		"let x = (1,2,3,4,5,6,7,(1,2,3,4,5,6,7,8 ^, 9), 9);", "let x = (1,2,3,4,5,6,7,8 ^, (1,2,3,4,5,6,7,8,9));",
		"data D = C (a,b,c,d,e,f,g,h ^, i);", "data D = C (a,b,c,d,e,f,g,h ^,",
		"data D = C (a,b,c,d,e,f,g,h -> a ^, in);", "data D = C (a,b,c,d,e,f,g,(a,b,c,d,e,f,g,h ^, i), i);",
		"let x = (1,2,3,4,5,6,7,8 ^; 9);")
	if e := checkMay(t, "let x = "+tuple(tuple("(y)", 8),
		8)+";").Binds[0].Body; len(e.Kids) != 8 || len(e.Kids[7].Kids) != 8 {
		t.Error("eight of eight")
	}
}

// Promise 10.3: what a program is told as. (Drawn programs with all places: see TestDrawnPrograms.)

func TestAtoms(t *testing.T) {
	checkExpr(t, "x", evar(8, "x"))
	checkExpr(t, "  x_1", evar(10, "x_1"))
	checkExpr(t, "Cons", econ(8, "Cons"))
	checkExpr(t, "0", eint(8, 0))
	checkExpr(t, "2147483647", eint(8, 2147483647))
	checkExpr(t, "true", ebool(8, 1))
	checkExpr(t, "false", ebool(8, 0))
	checkExpr(t, "--\nfalse--\n", ebool(11, 0))
}

func TestPlacesInBrackets(t *testing.T) {
	checkExpr(t, "(x)", evar(9, "x"))
	checkExpr(t, "((x))", evar(10, "x"))
	checkExpr(t, "( ( ( C ) ) )", econ(14, "C"))
	checkExpr(t, "(7)", eint(9, 7))
	checkExpr(t, "(true)", ebool(9, 1))
	checkExpr(t, "(f x)", eapp(9, evar(9, "f"), evar(11, "x")))
	checkExpr(t, `(\x -> x)`, elam(9, "x", evar(15, "x")))
	checkExpr(t, "((let x = y in z))", elet(10, "x", evar(18, "y"), evar(23, "z")))
	checkExpr(t, "(if x then y else z)", eif(9, evar(12, "x"), evar(19, "y"), evar(26, "z")))
	checkExpr(t, "(case x of { C -> y })", ecase(9, evar(14, "x"), alt(21, "C", "", evar(26, "y"))))
	checkExpr(t, "(x, y)", etuple(8, evar(9, "x"), evar(12, "y")))
	checkExpr(t, "((x, y))", etuple(9, evar(10, "x"), evar(13, "y")))
	checkExpr(t, "(((x), (y)))", etuple(9, evar(11, "x"), evar(16, "y")))
	checkExpr(t, "((x), y)", etuple(8, evar(10, "x"), evar(14, "y")))
}

func TestApplicationToTheLeft(t *testing.T) {
	checkExpr(t, "f a", eapp(8, evar(8, "f"), evar(10, "a")))
	checkExpr(t, "f a b", eapp(8, eapp(8, evar(8, "f"), evar(10, "a")), evar(12, "b")))
	checkExpr(t, "f (a b)", eapp(8, evar(8, "f"), eapp(11, evar(11, "a"), evar(13, "b"))))
	checkExpr(t, "(f a) b", eapp(9, eapp(9, evar(9, "f"), evar(11, "a")), evar(14, "b")))
	checkExpr(t, "((f) a) b", eapp(10, eapp(10, evar(10, "f"), evar(13, "a")), evar(16, "b")))
	checkExpr(t, "(f) (a) (b)", eapp(9, eapp(9, evar(9, "f"), evar(13, "a")), evar(17, "b")))
	checkExpr(t, "(f, a) b", eapp(8, etuple(8, evar(9, "f"), evar(12, "a")), evar(15, "b")))
	checkExpr(t, "1 C true (x)", eapp(8, eapp(8, eapp(8, eint(8, 1), econ(10, "C")), ebool(12, 1)), evar(18, "x")))
	checkExpr(t, `(\x -> x) y`, eapp(9, elam(9, "x", evar(15, "x")), evar(18, "y")))
	e := evar(8, "f")
	for i := range 59 {
		e = eapp(8, e, evar(10+2*i, "a"))
	}
	checkExpr(t, "f"+strings.Repeat(" a", 59), e)
}

func TestLams(t *testing.T) {
	checkExpr(t, `\x->x`, elam(8, "x", evar(12, "x")))
	checkExpr(t, `\x y x -> 1`, elam(8, "x", elam(8, "y", elam(8, "x", eint(18, 1)))))
	checkExpr(t, `\x -> \y z -> 1`, elam(8, "x", elam(14, "y", elam(14, "z", eint(22, 1)))))
	checkExpr(t, `\x -> (\y -> 1)`, elam(8, "x", elam(15, "y", eint(21, 1))))
	checkExpr(t, `\x -> f x y`, elam(8, "x", eapp(14, eapp(14, evar(14, "f"), evar(16, "x")), evar(18, "y"))))
	check(t, "let f x y = x;", binds(bind(4, "f", elam(4, "x", elam(4, "y", evar(12, "x"))))))
	check(t, `let f x = \y z -> x;`, binds(bind(4, "f", elam(4, "x", elam(10, "y", elam(10, "z", evar(18, "x")))))))
	check(t, "let  f f = f;", binds(bind(5, "f", elam(5, "f", evar(11, "f")))))
}

func TestLets(t *testing.T) {
	checkExpr(t, "let x = 1 in x", elet(8, "x", eint(16, 1), evar(21, "x")))
	checkExpr(t, "let  g x y = x in g",
		elet(8, "g", elam(13, "x", elam(13, "y", evar(21, "x"))), evar(26, "g")))
	checkExpr(t, "let x = let y = 1 in y in let z = x in z y",
		elet(8, "x", elet(16, "y", eint(24, 1), evar(29, "y")),
			elet(34, "z", evar(42, "x"), eapp(47, evar(47, "z"), evar(49, "y")))))
	checkExpr(t, `let f = \x -> x in f 1`,
		elet(8, "f", elam(16, "x", evar(22, "x")), eapp(27, evar(27, "f"), eint(29, 1))))
}

func TestIfs(t *testing.T) {
	checkExpr(t, "if x then y else z", eif(8, evar(11, "x"), evar(18, "y"), evar(25, "z")))
	checkExpr(t, "if if x then y else z then if a then b else c else if d then 1 else 2 3",
		eif(8, eif(11, evar(14, "x"), evar(21, "y"), evar(28, "z")), eif(35, evar(38, "a"), evar(45, "b"), evar(52,
			"c")),
			eif(59, evar(62, "d"), eint(69, 1), eapp(76, eint(76, 2), eint(78, 3)))))
}

func TestCases(t *testing.T) {
	checkExpr(t, "case x of{C->1}", ecase(8, evar(13, "x"), alt(18, "C", "", eint(21, 1))))
	checkExpr(t, "case f x of { C y y z -> y; C -> 2 ; D a -> (1, 2) }",
		ecase(8, eapp(13, evar(13, "f"), evar(15, "x")), alt(22, "C", "y y z", evar(33, "y")), alt(36, "C", "",
			eint(41, 2)), alt(45, "D", "a", etuple(52, eint(53, 1), eint(56, 2)))))
	checkExpr(t, "case case x of { C -> 1 } of { D -> case y of { E -> 2; F -> 3 }; G -> 4 }",
		ecase(8, ecase(13, evar(18, "x"), alt(25, "C", "", eint(30, 1))),
			alt(39, "D", "", ecase(44, evar(49, "y"), alt(56, "E", "", eint(61, 2)), alt(64, "F", "", eint(69, 3)))),
			alt(74, "G", "", eint(79, 4))))
}

func TestTypes(t *testing.T) {
	checkTypes(t, "")
	checkTypes(t, "a", yvar(0))
	checkTypes(t, "b a", yvar(1), yvar(0))
	checkTypes(t, "D Int", ycon("D"), ycon("Int"))
	checkTypes(t, "(D) ((D)) (b) ((a))", ycon("D"), ycon("D"), yvar(1), yvar(0))
	checkTypes(t, "(D a b) D a", ycon("D", yvar(0), yvar(1)), ycon("D"), yvar(0))
	checkTypes(t, "(D D (D b) (D))", ycon("D", ycon("D"), ycon("D", yvar(1)), ycon("D")))
	checkTypes(t, "(a, b) (D a, b, (a, D))", ycon(",", yvar(0), yvar(1)),
		ycon(",", ycon("D", yvar(0)), yvar(1), ycon(",", yvar(0), ycon("D"))))
	checkTypes(t, tuple("a", 8), ycon(",", slices.Repeat([]api.Type{yvar(0)}, 8)...))
}

func TestArrowsToTheRight(t *testing.T) {
	a, b, d := yvar(0), yvar(1), ycon("D")
	checkTypes(t, "(a -> b)", ycon("->", a, b))
	checkTypes(t, "(a -> b -> D)", ycon("->", a, ycon("->", b, d)))
	checkTypes(t, "((a -> b) -> D)", ycon("->", ycon("->", a, b), d))
	checkTypes(t, "(a -> (b -> D))", ycon("->", a, ycon("->", b, d)))
	checkTypes(t, "(D a -> D b D -> a)", ycon("->", ycon("D", a), ycon("->", ycon("D", b, d), a)))
	checkTypes(t, "(a -> b, D -> a -> b)", ycon(",", ycon("->", a, b), ycon("->", d, ycon("->", a, b))))
	checkTypes(t, "((a, b) -> (D (a -> b)))", ycon("->", ycon(",", a, b), ycon("D", ycon("->", a, b))))
}

func TestVariablesOfTypes(t *testing.T) {
	check(t, "data D = C a;", datas(data(5, "D", "", con(9, "C", ynone("a")))))
	check(t, "data D a b c = C c b a | E a d c;", datas(data(5, "D", "a b c",
		con(15, "C", yvar(2), yvar(1), yvar(0)), con(25, "E", yvar(0), ynone("d"), yvar(2)))))
	check(t, "data D a b a c b = C a b c;", datas(data(5, "D", "a b a c b", con(19, "C", yvar(0), yvar(1), yvar(3)))))
	check(t, "data D a a = C (a -> aa, A a);", datas(data(5, "D", "a a",
		con(13, "C", ycon(",", ycon("->", yvar(0), ynone("aa")), ycon("A", yvar(0)))))))
	// Those of the data ahead, or behind, do not count.
	check(t, "data D a b = C b; data E b = F a b; data G a = H b;", datas(data(5, "D", "a b", con(13, "C", yvar(1))),
		data(23, "E", "b", con(29, "F", ynone("a"), yvar(0))), data(41, "G", "a", con(47, "H", ynone("b")))))
	names, src := "", ""
	for i := range 4000 {
		names += fmt.Sprint(" a", i)
		src += fmt.Sprint(" a", 3999-i)
	}
	args := checkMay(t, "data D"+names+" = C"+src+" b;").Datas[0].Cons[0].Args
	for i, x := range args[:4000] {
		if x.N != 3999-i || x.Name != "" {
			t.Fatalf("variable %d of many: %+v", i, x)
		}
	}
}

// Promise 10.4: how deep.

// levels tells how deep e is, level by level.
func levels(e api.Expr) int {
	n, l := 0, []api.Expr{e}
	for ; len(l) > 0; n++ {
		var next []api.Expr
		for _, e := range l {
			next = append(next, e.Kids...)
			for _, a := range e.Alts {
				next = append(next, a.Body)
			}
		}
		l = next
	}
	return n
}

func TestDeep(t *testing.T) {
	one, two, three := eint(0, 1), eapp(0, evar(0, "f"), econ(0, "C")), elam(0, "x", elam(0, "y", ebool(0, 1)))
	for i, c := range []struct {
		e    api.Expr
		want int
	}{
		{api.Expr{}, 1}, {one, 1}, {evar(0, "x"), 1}, {two, 2}, {three, 3},
		{eapp(0, three, one), 4}, {eapp(0, one, three), 4}, {elam(0, "x", two), 3},
		{elet(0, "x", one, one), 2}, {elet(0, "x", three, one), 4}, {elet(0, "x", one, three), 4},
		{eif(0, three, one, two), 4}, {eif(0, one, three, two), 4}, {eif(0, one, two, three), 4},
		{etuple(0, one, one), 2}, {etuple(0, three, one), 4}, {etuple(0, one, two, one, one, one, one, one, three), 4},
		{ecase(0, one, alt(0, "C", "x", one)), 2}, {ecase(0, three, alt(0, "C", "", one)), 4},
		{ecase(0, one, alt(0, "C", "", three), alt(0, "D", "", one)), 4},
		{ecase(0, one, alt(0, "C", "", one), alt(0, "D", "x y z", three)), 4},
		{ecase(0, one), 2}, {ecase(0, two, alt(0, "C", "", two)), 3},
		// what no program has
		{api.Expr{Kind: 99, Kids: []api.Expr{one, two}, Alts: []api.Alt{{Body: three}}}, 4},
		{api.Expr{Kind: api.EVar, Alts: []api.Alt{{}}}, 2}, {api.Expr{Kind: -1, Kids: []api.Expr{{}, {}}}, 2},
		{api.Expr{Kind: api.ELam}, 1},
	} {
		if got := Deep(c.e); got != c.want || got != levels(c.e) {
			t.Errorf("expression %d: %d, want %d", i, got, c.want)
		}
	}
	next := plays.Below(105)
	for range 2000 {
		if e := progs.DrawnExpr(next, 1+next(9)); Deep(e) != levels(e) {
			t.Errorf("%d, want %d: %+v", Deep(e), levels(e), e)
		}
	}
	e := one
	for n := 2; n < 1<<16; n++ {
		e = []api.Expr{elam(0, "x", e), eapp(0, e, one), ecase(0, one, alt(0, "C", "", e))}[n%3]
		if n > 65000 && n%100 == 0 && Deep(e) != n {
			t.Fatalf("%d deep: %d", n, Deep(e))
		}
	}
}

// wraps tells, of each kind of expression, what makes what stands at `^` one deeper.
func wraps() []string {
	return []string{`\x -> ^`, "let x = ^ in y", "let x = y in ^", "if ^ then x else y", "if x then ^ else y",
		"if x then y else ^", "case ^ of { C -> x }", "case x of { C y -> ^ }",
		"case x of { C -> y ; D -> ^ ; E -> z }", "(^, x)", "(x, ^)", "(1, 2, 3, 4, 5, 6, 7, ^)", "f (^)", "(^) x"}
}

// typeWraps tells that of types.
func typeWraps() []string {
	return []string{"(^ -> a)", "(a -> ^)", "(^, a)", "(a, ^)", "(D ^)", "(D a ^ b)"}
}

// nest tells s within so many of a wrap.
func nest(wrap, s string, times int) string {
	ahead, behind, _ := strings.Cut(wrap, "^")
	return strings.Repeat(ahead, times) + s + strings.Repeat(behind, times)
}

func TestBodiesOfMostDepth(t *testing.T) {
	for _, wrap := range wraps() {
		for _, n := range []int{1, 2, 30, 59, 60, 61, 100, 200} {
			src := "let a = 1; let  b = " + nest(wrap, "x", n) + "; let c = 2;"
			if n >= api.MaxDeep {
				checkWrong(t, src, api.ErrDeep, 16)
			} else if got := Deep(checkMay(t, src).Binds[1].Body); got != n+1 {
				t.Errorf("%s: %d deep, want %d", said(src), got, n+1)
			}
		}
		for _, other := range wraps() {
			checkMay(t, "let x = "+nest(wrap, nest(other, "x", 29), 30)+";")
			checkWrong(t, "let x = "+nest(wrap, nest(other, "x", 30), 30)+";", api.ErrDeep, 4)
		}
	}
	for n, e := range map[int]api.Errno{57: api.OK, 58: api.OK, 59: api.ErrDeep, 60: api.ErrDeep, 1000: api.ErrDeep} {
		at := 4
		if e == api.OK {
			at = 0
		}
		// The names of a Bind, of an ELet, of a function, arguments: each makes it one deeper.
		for _, src := range []string{"let x" + strings.Repeat(" y", n+1) + " = 1;", `let x = \` + strings.Repeat("y ",
			n+1) + "-> 1;", "let x = let y" + strings.Repeat(" z", n) + " = 1 in y;",
			"let x = f" + strings.Repeat(" y", n+1) + ";",
			"let x y = f" + strings.Repeat(" y", n) + ";", "let x = case y of { C -> 1; D -> f" + strings.Repeat(" y",
				n) + "};"} {
			if _, got, gotAt := Parse(src); got != e || gotAt != at {
				t.Errorf("%s: error %d at %d, want %d at %d", said(src), got, gotAt, e, at)
			}
		}
	}
	// The names of an alt do not.
	checkMay(t, "let x = case y of { C"+strings.Repeat(" z", 1000)+" -> 1 };")
}

func TestTypesOfMostDepth(t *testing.T) {
	for _, wrap := range typeWraps() {
		for _, leaf := range []string{"a", "b", "E"} {
			for _, n := range []int{1, 2, 30, 59, 60, 61, 100, 200} {
				src := "data D a = A | B a " + nest(wrap, leaf, n) + " a | C;"
				if n < api.MaxDeep {
					checkMay(t, src)
				} else {
					checkWrong(t, src, api.ErrDeep, 15)
				}
			}
		}
		for _, other := range typeWraps() {
			checkMay(t, "data D = C "+nest(wrap, nest(other, "x", 29), 30)+";")
			checkWrong(t, "data D = C "+nest(wrap, nest(other, "x", 30), 30)+";", api.ErrDeep, 9)
		}
	}
	// Many types that are as deep as may be are not deeper than one.
	checkMay(t, "data D = C"+strings.Repeat(" "+nest("(a -> ^)", "a", 59), 20)+";")
}

// TestFirstThatIsTooDeep puts declarations that are too deep, or are not, in all orders.
func TestFirstThatIsTooDeep(t *testing.T) {
	arrows, lams := nest("(a -> ^)", "a", 60), nest(`\x -> ^`, "x", 60)
	decls := []string{"let x = 1;", "data D = C (a -> a);", "let ^x = " + lams + ";", "let ^x" + strings.Repeat(" y",
		60) + "= 1;", "data D a = ^C " + arrows + ";", "data D = A | ^B " + arrows + " | C | D " + arrows + ";",
		"data D = A a | B a a | ^C a " + arrows + ";"}
	for n := range 4 {
		lists.Each(n, lists.Span(0, len(decls)-1), func(l []int) {
			src := ""
			for _, i := range l {
				src += decls[i] + " "
			}
			if at := strings.Index(src, "^"); at >= 0 {
				src = strings.ReplaceAll(src, "^", "")
				checkWrong(t, src, api.ErrDeep, at)
				checkToken(t, src+"in", len(src))
				checkToken(t, src+"let x = 1", len(src)+9)
				checkToken(t, "; "+src, 0)
				checkWrong(t, src+"?", api.ErrLex, len(src))
			} else {
				checkMay(t, src)
			}
		})
	}
}

func TestTooDeepBesideAWrongToken(t *testing.T) {
	lams, arrows := nest(`\x -> ^`, "x", 300), nest("(a -> ^)", "a", 300)
	for _, wrong := range []string{"let x = 1 ^in 2;", "let x = ^;", "^)", "let x = (1,2,3,4,5,6,7,8 ^, 9);",
		"data D = C ^-> C;", "let x = (" + lams + ") ^= 1;", "let x = " + lams + " ^)",
		"data D = C " + arrows + " ^->;", "let x = " + lams + "^", "let x = (1, " + lams + " ^;",
		"let x = case " + lams + " of ^C -> 1;"} {
		checkHat(t, wrong, "let x = "+lams+"; "+wrong, "data D = C "+arrows+"; "+wrong)
		if !strings.HasSuffix(wrong, "^") {
			checkHat(t, wrong+" let x = "+lams+";", wrong+" data D = C "+arrows+";")
		}
	}
}

// TestBracketsAloneAreNotDeep has as many brackets as there is room for.
func TestBracketsAloneAreNotDeep(t *testing.T) {
	for _, n := range []int{1, 59, 60, 61, 1000, 32762} {
		check(t, "let x="+nest("(^)", "y", n)+";", binds(bind(4, "x", evar(6+n, "y"))))
	}
	for _, n := range []int{1, 59, 60, 61, 1000, 32750} {
		check(t, "data D a=C "+nest("(^)", "a", n)+";", datas(data(5, "D", "a", con(9, "C", yvar(0)))))
		check(t, "let x=f "+nest("(^)", "a b", n)+";",
			binds(bind(4, "x", eapp(6, evar(6, "f"), eapp(8+n, evar(8+n, "a"), evar(10+n, "b"))))))
	}
	checkMay(t, "let x = "+nest("(((^, 1)))", "x", 59)+";")
	checkMay(t, "data D = C "+nest("(((^ -> a)))", "a", 59)+";")
	checkWrong(t, "let x = "+nest("(((^, 1)))", "x", 60)+";", api.ErrDeep, 4)
	checkWrong(t, "data D = C "+nest("(((^ -> a)))", "a", 60)+";", api.ErrDeep, 9)
}

// Promise 10.5. (Brackets in drawn programs: see TestDrawnPrograms.)

func TestBracketsThatChangeNothing(t *testing.T) {
	for src, plain := range map[string]string{
		"let x = (f) ((a b)) (((c)));":                         "let x = f (a b) c;",
		"let x = (((f a) b) c);":                               "let x = f a b c;",
		"let x = (1);":                                         "let x = 1;",
		`let x = (\y -> ((z)));`:                               `let x = \y -> z;`,
		`let x = \y -> (\z -> (y));`:                           `let x = \y z -> y;`,
		`let x = (\y -> 1);`:                                   "let x y = 1;",
		"let x = let y = (\\z -> z) in (y);":                   "let x = let y z = z in y;",
		"let x = (let y = (1) in ((y)));":                      "let x = let y = 1 in y;",
		"let x = (if (a) then (b) else (c));":                  "let x = if a then b else c;",
		"let x = (case (a) of { C b -> (b); D -> ((a)) });":    "let x = case a of { C b -> b; D -> a };",
		"let x = (((1), ((2, 3))));":                           "let x = (1, (2, 3));",
		"let x = ((f (a)), (b));":                              "let x = (f a, b);",
		"data D a = C (a) ((D)) ((a -> (a)));":                 "data D a = C a D (a -> a);",
		"data D a = C (a -> (a -> a));":                        "data D a = C (a -> a -> a);",
		"data D a = C ((D (a)) -> (((a))));":                   "data D a = C (D a -> a);",
		"data D a = C (((a), ((D a)))) ((((a, a)) -> ((D))));": "data D a = C (a, D a) ((a, a) -> D);",
	} {
		if a, b := progs.Bare(checkMay(t, src)), progs.Bare(checkMay(t, plain)); a != b || a == "" {
			t.Errorf("%s: %s, want %s", said(src), a, b)
		}
	}
	// These change it.
	for src, plain := range map[string]string{
		"let x = f (a b);": "let x = f a b;", "let x = (1, (2, 3));": "let x = (1, 2, 3);",
		"data D a = C ((a -> a) -> a);": "data D a = C (a -> a -> a);", "data D a = C (D a);": "data D a = C D a;",
	} {
		if progs.Bare(checkMay(t, src)) == progs.Bare(checkMay(t, plain)) {
			t.Errorf("%s: as %s", said(src), plain)
		}
	}
}

// R1: whatever is handed in.

// filled tells what is ahead, and as often as there is room for it the text.
func filled(ahead, s string) string {
	return ahead + strings.Repeat(s, (api.MaxSrc-len(ahead))/len(s))
}

func TestTextsOfMostBytes(t *testing.T) {
	for _, s := range []string{"(", ")", "x ", "C ", "->", `\`, ";", ",", "7 ", "{", "}", "|", "=", "in ", "if ",
		"case ", "true ", "(x,", "()", "->x"} {
		checkToken(t, filled("", s), 0)
		checkToken(t, filled("let x=1;", s), 8)
	}
	checkToken(t, filled("", "let "), 4)
	checkToken(t, filled("", "data "), 5)
	for _, s := range []string{"(", "x ", "C ", `\x->`, "if ", "case ", "let x=", "(1,", "f(", "7 ", "true ", "(\n",
		"if x then ", "if x then y else ", "case x of{C->", "let x=y in ", "case x of{C->1;C->", `(\x->`, "let x y=",
		`(\x->f `} {
		src := filled("let x=", s)
		checkToken(t, src, len(src))
	}
	for _, src := range []string{filled(`let x=\`, "x "), filled("let x", " x"), filled("data D", " a"),
		filled("data D=C", "|C"), filled("data D=C ", "("), filled("data D=C ", "x "), filled("data D=C (", "a->"),
		filled("data D=C ", "(a->"), filled("data D=C ", "(a,"), filled("data D=C ", "(C "), filled("data D=C(", "C "),
		filled("data D=C ", "x(C)"), filled("let x=case y of{C", " z"), filled("let x=case y of{C->1", ";C->1")} {
		checkToken(t, src, len(src))
	}
	for _, src := range []string{filled("let x=1;", "let x=1;"), filled("data D=C;", "data D=C;")} {
		checkMay(t, src)
		checkToken(t, src[:len(src)-1], len(src)-1)
	}
	for _, s := range []string{")", "->", ";", ",", "in ", "}", "=", "then ", "{", "|"} {
		checkToken(t, filled("let x=", s), 6)
		checkToken(t, filled("data D=C(", s), 9)
	}
	checkToken(t, filled("let x=", `\`), 7)
	checkToken(t, filled("let x=(1", ")"), 9)
}

func TestTextsOfMostBytesThatAreTooDeep(t *testing.T) {
	for _, src := range []string{"let x=f" + strings.Repeat(" y", 32000), `let x=\` + strings.Repeat("y ",
		32000) + "->1", "let x " + strings.Repeat("y ", 32000) + "=1", "let x=" + strings.Repeat("if x then y else ",
		3800) + "z",
		"let x=" + strings.Repeat("if ", 3000) + "x" + strings.Repeat(" then y else z", 3000),
		"let x=" + nest("(1,^)", "y", 16000), "let x=" + nest("(^,1)", "y", 16000), "let x=" + nest(`(\y->^)`, "y",
			10000), "let x=" + strings.Repeat("let y=1 in ", 5000) + "y", "let x=" + nest("let y=^ in 1", "y", 5000),
		"let x=" + nest("case ^ of{C->1}", "y", 4000), "let x=" + nest("case y of{C->^}", "y", 4000)} {
		checkWrong(t, src+";", api.ErrDeep, 4)
	}
	for _, src := range []string{nest("(a->^)", "a", 13000), nest("(^->a)", "a", 13000), "(" + strings.Repeat("a->",
		20000) + "a)", nest("(a,^)", "a", 16000), nest("(C ^)", "a", 16000)} {
		checkWrong(t, "data D=C "+src+";", api.ErrDeep, 7)
	}
}

func TestDrawnTexts(t *testing.T) {
	next := plays.Below(106)
	for range 20000 {
		b := make([]byte, next(40))
		for i := range b {
			b[i] = `let x=(\y->1,C);|{} data if then else case of in ?`[next(50)]
		}
		src := string(b)
		p, e, at := Parse(src)
		if e != api.OK && (len(p.Datas)+len(p.Binds) > 0 || at < 0 || at > len(src)) || e == api.OK && at != 0 {
			t.Errorf("%s: error %d at %d", said(src), e, at)
		}
	}
}

func TestTheSameAgain(t *testing.T) {
	next := plays.Below(107)
	for i := range 300 {
		src, _ := written(progs.Drawn(next), next, 4)
		if i%3 == 0 {
			src = strings.Replace(src, ";", []string{"", "?", ")", "; let x = " + nest("(^, 1)", "1", 70)}[next(4)],
				1)
		}
		p, e, at := Parse(src)
		for range 5 {
			Parse("data D b a = C a b; let x = (")
			q, f, there := Parse(string([]byte(src)))
			if progs.Told(p) != progs.Told(q) || e != f || at != there {
				t.Fatalf("%s: another answer", said(src))
			}
		}
	}
}

// R3: what is told is new memory.

func TestNoTwoListsShareMemory(t *testing.T) {
	next := plays.Below(108)
	for range 300 {
		src, _ := written(progs.Drawn(next), next, 4)
		if progs.Shared(checkMay(t, src), checkMay(t, src)) {
			t.Fatalf("%s: two lists share memory", said(src))
		}
	}
}

func TestWritingIntoAProgramChangesNothing(t *testing.T) {
	src := "data D a b = C a (D a, b) | E; let f x = case x of { C y z -> (f y, 1, 2); E -> g x x }; let g = true;"
	one, other := checkMay(t, src), checkMay(t, src)
	want := progs.Told(other)
	progs.Scribble(one)
	if progs.Told(other) != want || progs.Told(checkMay(t, src)) != want {
		t.Errorf("%s: what was told became another", said(src))
	}
}

// What is handed in is not kept: no text that is told is a piece of it.
func TestTextsAreNoPieces(t *testing.T) {
	src := strings.Clone("data D a = C a (Dee -> bee, a);" +
		"let ff xx = case xx of { C yy -> \\zz -> let uu = 1 in Con uu };")
	low := uintptr(unsafe.Pointer(unsafe.StringData(src)))
	for _, s := range progs.Texts(checkMay(t, src)) {
		if at := uintptr(unsafe.Pointer(unsafe.StringData(s))); at >= low && at < low+uintptr(len(src)) {
			t.Errorf("%q is a piece of what was handed in", s)
		}
	}
}

func TestDeepChangesNothing(t *testing.T) {
	p := checkMay(t, "let f x = case x of { C y z -> (f y, 1, 2); E -> g x x };")
	want := progs.Told(p)
	for range 3 {
		if got := Deep(p.Binds[0].Body); got != 5 || progs.Told(p) != want {
			t.Errorf("%d deep: %s", got, progs.Told(p))
		}
	}
}
