package refs

import (
	"strings"
	"testing"

	"warp/api"
)

// Promises 14.1, of Free, and 14.2: checkFree binds each name around all, too.

func TestNoNames(t *testing.T) {
	checkTexts(t, [][2]string{{"1", ""}, {"true", ""}, {"C", ""}, {"C 1 (D true)", ""}, {"(1, C, false)", ""},
		{"if true then 1 else C", ""}, {"\\x -> 1", ""}, {"\\x -> \\y -> C", ""}, {"let x = 1 in C", ""},
		{"case 1 of {C -> 2}", ""}, {"case C of {C x y -> 2; D z -> C}", ""}})
	checkFree(t, api.Expr{})
}

func TestNamesOnceEach(t *testing.T) {
	checkTexts(t, [][2]string{{"x", "x"}, {"x x", "x"}, {"x x x", "x"}, {"x (x x)", "x"}, {"(x, x)", "x"},
		{"(x, 1, x, x)", "x"},
		{"if x then x else x", "x"}, {"let y = x in x", "x"}, {"\\y -> x x", "x"},
		{"case x of {C -> x; D y -> x}", "x"},
		{"f x f y x", "f x y"}, {"f x (x f)", "f x"}, {"(x y) (y x)", "x y"}, {"(f, \\x -> f x, f)", "f"},
		{"x y y x z z y x", "x y z"}})
}

// Each place where a name may stand.
func TestNamesInEachPlace(t *testing.T) {
	checkTexts(t, [][2]string{{"x 1", "x"}, {"1 x", "x"}, {"C x", "x"}, {"C 1 x 2", "x"}, {"\\y -> x", "x"},
		{"let y = x in 1", "x"}, {"let y = 1 in x", "x"}, {"if x then 1 else 2", "x"}, {"if 1 then x else 2", "x"},
		{"if 1 then 2 else x", "x"}, {"case x of {C -> 1}", "x"}, {"case 1 of {C -> x}", "x"},
		{"case 1 of {C -> x; D -> 2; E -> 3}", "x"}, {"case 1 of {C -> 2; D -> x; E -> 3}", "x"},
		{"case 1 of {C -> 2; D -> 3; E -> x}", "x"}, {"case 1 of {C y z -> x}", "x"},
		{"\\y -> let z = (1, if C then case 2 of {C u -> f 1 x} else 3) in 4", "f x"}})
	for size := 2; size <= api.MaxTuple; size++ {
		for i := range size {
			parts := strings.Fields(strings.Repeat("1 ", size))
			parts[i] = "x"
			checkTexts(t, [][2]string{{"(" + strings.Join(parts, ", ") + ")", "x"}})
		}
	}
}

func TestOrder(t *testing.T) {
	checkTexts(t, [][2]string{{"x y", "x y"}, {"y x", "y x"}, {"f x y z", "f x y z"}, {"z y x f", "z y x f"},
		{"z (y x) f", "z y x f"}, {"f (g (h (i j)))", "f g h i j"}, {"b a c a b d", "b a c d"},
		{"(c, b, a)", "c b a"}, {"(h, g, f, e, d, c, b, a)", "h g f e d c b a"}, {"if c then b else a", "c b a"},
		{"if b then a else c", "b a c"}, {"let x = b in a", "b a"}, {"let x = a in b", "a b"},
		{"let a = d in (a, c, b)", "d c b"},
		{"case c of {C -> b; D -> a}", "c b a"}, {"case b of {C -> c; D -> a}", "b c a"},
		{"case z of {C x -> (y, x); D -> (x, y)}", "z y x"}, {"\\x -> (z, x, y)", "z y"},
		// What stands deeper stands no later.
		{"(((((d))) c) b) a", "d c b a"}, {"(\\x -> \\y -> c y x) (b a)", "c b a"}, {"(1, (c, b), a)", "c b a"},
		{"case case d of {C -> c} of {D -> case b of {E -> a}}", "d c b a"},
		{"(case d of {C -> c; D -> b}) a", "d c b a"}, {"let x = let y = d in c in let z = b in a", "d c b a"},
		// What is bound where it stands first stands first elsewhere.
		{"(\\x -> x) (y x)", "y x"}, {"(\\x -> (x, z)) (y, x)", "z y x"}, {"let x = z in (x, y, \\y -> y)", "z y"},
		{"(case a of {C c b -> (b, c)}, d, c, b)", "a d c b"}})
}

func TestBoundByLam(t *testing.T) {
	checkTexts(t, [][2]string{{"\\x -> f x", "f"}, {"\\x -> x", ""}, {"\\x -> x x", ""}, {"\\x -> y x z x", "y z"},
		{"\\x -> \\y -> x y", ""}, {"\\x -> \\y -> x y z", "z"}, {"\\x y z -> f x y z g", "f g"},
		{"\\x -> \\y -> \\z -> x", ""},
		{"\\x -> (1, (2, if x then C x else case x of {C -> x}))", ""},
		// Beside it, ahead and behind.
		{"(\\x -> x) x", "x"}, {"x (\\x -> x)", "x"}, {"x (\\x -> x y)", "x y"}, {"(\\x -> x y) x", "y x"},
		{"(\\x -> 1, x)", "x"}, {"(x, \\x -> 1)", "x"}, {"(1, \\x -> x, 2, x)", "x"}, {"(\\x -> x, \\y -> x)", "x"},
		{"(\\y -> x, \\x -> x)", "x"}, {"(\\x -> y) (\\y -> x)", "y x"}, {"if \\x -> x then x else y", "x y"},
		{"let y = \\x -> x in x", "x"}, {"case \\x -> x of {C -> x}", "x"}, {"case 1 of {C -> \\x -> x; D -> x}", "x"}})
}

func TestBoundByLet(t *testing.T) {
	checkTexts(t, [][2]string{{"let x = 1 in x", ""}, {"let x = 1 in x y x", "y"}, {"let x = 1 in \\y -> x y", ""},
		{"let x = x in 1", "x"}, {"let x = x in x", "x"}, {"let x = y x in x", "y x"}, {"let x = \\x -> x in x", ""},
		{"let x = \\y -> x y in x", "x"}, {"let a = a b in a c", "a b c"}, {"let a = b in \\b -> a b", "b"},
		{"let x = 1 in let y = x in y", ""}, {"let x = let y = 1 in y in y", "y"}, {"let x = let x = 1 in x in x", ""},
		{"let x = let x = x in x in x", "x"}, {"let f x = f x in f", "f"}, {"let f x y = x y in f", ""},
		{"let f x = x in f x", "x"}, {"let x = let y = x in y in x", "x"}, {"let x = 1 in let x = x in x", ""},
		{"let x = 1 in let y = y in x", "y"},
		// Beside it, ahead and behind.
		{"(let x = 1 in x) x", "x"}, {"x (let x = 1 in x)", "x"}, {"(let x = 1 in 2, x)", "x"},
		{"(x, let x = 1 in 2)", "x"},
		{"(let x = y in x, let y = x in y)", "y x"}, {"if let x = 1 in x then x else y", "x y"}})
}

func TestBoundByAlts(t *testing.T) {
	checkTexts(t, [][2]string{{"case 1 of {C x -> x}", ""}, {"case 1 of {C x y -> x y}", ""},
		{"case 1 of {C x y -> y z x}", "z"},
		{"case 1 of {C x y z -> z; D x -> x}", ""}, {"case 1 of {C -> x}", "x"}, {"case 1 of {C y -> x}", "x"},
		// In another alt, ahead and behind.
		{"case a of {C a b -> a b c; D -> b}", "a c b"}, {"case 1 of {C x -> x; D -> x}", "x"},
		{"case 1 of {C -> x; D x -> x}", "x"}, {"case 1 of {C x -> y; D y -> x}", "y x"},
		{"case 1 of {C x -> 1; D -> x; E x -> 2}", "x"},
		{"case 1 of {C x y -> 1; D y z -> x; E z x -> y; F x y -> z}", "x y z"},
		{"case 1 of {C x -> x; D x -> x; E x -> x}", ""},
		// In the case's Kid, and in that which an alt has.
		{"case x of {C x -> x}", "x"}, {"case x of {C x -> y}", "x y"}, {"case y x of {C x y -> x}", "y x"},
		{"case x of {C x -> 1; D y -> y}", "x"}, {"case 1 of {C x -> case x of {D y -> x y}}", ""},
		{"case 1 of {C x -> case y of {D y -> x y}}", "y"}, {"case case 1 of {C x -> x} of {D -> x}", "x"},
		{"case case x of {C x -> x} of {D x -> x}", "x"}, {"case \\x -> x of {C y -> x y}", "x"},
		// Beside it, ahead and behind.
		{"(case q of {C x -> 1}) x", "q x"}, {"x (case q of {C x -> x})", "x q"},
		{"(case 1 of {C x y -> 2}, y, x)", "y x"},
		{"let z = case 1 of {C x -> x} in x", "x"}, {"(case 1 of {C x -> x}, case 1 of {C y -> x y})", "x"}})
	names := strings.Fields("a b c d e f g h i")
	for n := range names {
		for i := range names {
			want := names[i : i+1]
			if i < n {
				want = nil
			}
			checkFree(t, choose(number(), alt(ref(names[i]), names[:n]...)), want...)
		}
		checkFree(t, choose(number(), alt(node(api.ETuple, "", refs(names...)...), names[:n]...)), names[n:]...)
	}
}

// One that is bound twice around is bound once still where it is bound once less.
func TestBoundTwice(t *testing.T) {
	checkTexts(t, [][2]string{{"\\x -> \\x -> x", ""}, {"\\x x -> x", ""}, {"\\x -> (\\x -> x) x", ""},
		{"\\x -> x (\\x -> x)", ""},
		{"(\\x -> (\\x -> x) x y) x", "y x"}, {"(\\x -> \\x -> x) x", "x"}, {"(\\x -> \\x -> 1) x", "x"},
		{"(\\x -> (\\x -> (\\x -> x) x) x) x", "x"}, {"(\\x -> (\\x -> \\x -> 1) x, 2)", ""},
		{"(\\x -> \\x -> \\x -> x, x)", "x"},
		{"(\\x -> (\\x -> 1, \\x -> 2, x), 3)", ""}, {"\\x -> (\\y -> \\x -> y x) x y", "y"},
		{"let x = 1 in (let x = x in x) x", ""}, {"(let x = 1 in let x = x in x) x", "x"},
		{"let x = 1 in let x = 2 in x", ""},
		{"(let x = 1 in (let x = 2 in 3, x), 4)", ""}, {"\\x -> let x = x in x", ""},
		{"(\\x -> let x = x in x) x", "x"},
		{"\\x -> (let x = x in x, x)", ""}, {"let x = 1 in (\\x -> x) x", ""}, {"(let x = 1 in \\x -> x) x", "x"},
		{"\\x -> case x of {C x -> x; D -> x}", ""}, {"(\\x -> case x of {C x -> x; D -> x}) x", "x"},
		{"(\\x -> (case 1 of {C x y -> x}, x, y), x)", "y x"}, {"case 1 of {C x -> (\\x -> x) x}", ""},
		{"(case 1 of {C x -> (let x = x in x) x}) x", "x"},
		{"case 1 of {C x y -> case y of {D x z -> x z; E -> x z}}", "z"},
		{"case 1 of {C x -> (case 2 of {D x -> 3}, x); E -> x}", "x"}})
	// One alt that binds it twice, or thrice, binds it nowhere else.
	for n := 1; n < 5; n++ {
		twice := strings.Fields(strings.Repeat("x ", n))
		checkFree(t, choose(number(), alt(ref("x"), twice...)))
		checkFree(t, choose(number(), alt(ref("y"), append(twice, "y")...), alt(app(ref("y"), ref("x")), "z")), "y", "x")
		checkFree(t, app(choose(number(), alt(number(), twice...)), ref("x")), "x")
		checkFree(t, lam("x", app(choose(number(), alt(number(), twice...)), ref("x"))))
	}
}

func TestFreeHereBoundThere(t *testing.T) {
	checkTexts(t, [][2]string{{"x (\\x -> x)", "x"}, {"(\\x -> x) x", "x"}, {"(x, let x = 1 in x)", "x"},
		{"(let x = 1 in x, x)", "x"}, {"(x, case 1 of {C x -> x})", "x"}, {"(case 1 of {C x -> x}, x)", "x"},
		{"(\\x -> x, x, \\x -> x)", "x"}, {"(x, \\x -> x, x)", "x"}, {"(x, \\x -> (x, \\x -> x), \\x -> y)", "x y"},
		{"(\\x -> x y, \\y -> y x)", "y x"}, {"\\y -> (x, \\x -> x, y)", "x"}, {"\\y -> (\\x -> x, x, y)", "x"},
		{"let x = (x, \\x -> x) in x", "x"}, {"let x = (\\x -> x, x) in x", "x"}, {"let y = x in \\x -> x y", "x"},
		{"if x then \\x -> x else let x = x in x", "x"}, {"(\\x -> z (\\z -> x z)) (x z)", "z x"}})
}

// A Con of the same Name is none, nor what binds a Name that nothing uses.
func TestWhatIsNoUse(t *testing.T) {
	checkTexts(t, [][2]string{{"X x", "x"}, {"x X", "x"}, {"\\x -> 1", ""}, {"\\x -> y", "y"}, {"let x = 1 in 2", ""},
		{"let x = y in z", "y z"}, {"case 1 of {X -> x}", "x"}, {"case x of {C y -> 1}", "x"}})
	for _, name := range []string{"", "x", "X", "C", "\xff"} {
		use := node(api.ECon, name)
		checkFree(t, use)
		checkFree(t, app(use, ref("y")), "y")
		checkFree(t, app(ref("y"), use), "y")
		checkFree(t, app(use, ref(name)), name)
		checkFree(t, app(ref(name), use), name)
		checkFree(t, choose(ref("y"), api.Alt{Con: name, Body: number()}), "y")
		checkFree(t, choose(ref("y"), api.Alt{Con: name, Body: ref(name)}), "y", name)
		checkFree(t, choose(use, api.Alt{Con: name, Names: []string{name}, Body: ref(name)}))
		for kind := api.ECon; kind <= api.ECase; kind++ {
			checkFree(t, node(kind, name))
			if kind != api.ELam && kind != api.ELet {
				checkFree(t, node(kind, name, ref("y")), "y")
				checkFree(t, node(kind, name, ref(name)), name)
			}
		}
		checkFree(t, api.Expr{Kind: api.EInt, Name: name, N: api.EVar})
	}
}

// The empty name is one as others are; names are held against one another byte by byte.
func TestNamesOfAllSorts(t *testing.T) {
	names := []string{"", " ", "\x00", "\x00\x00", "x", "x ", "X", "xx", "x\x00", "é", "e\u0301", "\xff", "\xfe", "\xff\xff",
		"let", "->", "1", strings.Repeat("x", 1000), strings.Repeat("x", 999) + "y"}
	checkFree(t, node(api.ETuple, "", refs(names...)...), names...)
	for i, one := range names {
		checkFree(t, ref(one), one)
		for j, other := range names {
			if i == j {
				continue
			}
			checkFree(t, lam(one, ref(other)), other)
			checkFree(t, let(one, ref(one), ref(other)), one, other)
			checkFree(t, choose(ref(other), alt(ref(other), one), alt(ref(one), other)), other, one)
			checkFree(t, app(app(ref(other), ref(one)), app(ref(one), ref(other))), other, one)
		}
	}
	// Texts of other memory are one name.
	name, again := strings.Clone("x1"), strings.Clone("x1")
	checkFree(t, lam(name, ref(again)))
	checkFree(t, app(ref(name), ref(again)), "x1")
}

// Places, and numbers, count for nothing.
func TestPlacesCountForNothing(t *testing.T) {
	e := expr(t, "\\x -> (z, case y of {C x u -> u x y; D -> u})")
	for _, at := range []int{0, 1, -1, 1 << 40, -1 << 40} {
		e.At, e.N = at, at
		for i := range e.Kids[0].Kids {
			e.Kids[0].Kids[i].At, e.Kids[0].Kids[i].N = -at*i, at
		}
		checkFree(t, e, "z", "y", "u")
	}
}
