package scope

import (
	"fmt"
	"slices"
	"strings"
	"testing"

	"warp/api"
)

// Promise 13.1: Check.

func TestNothing(t *testing.T) {
	check(t, api.Program{}, api.OK)
	check(t, api.Program{Datas: []api.Data{}, Binds: []api.Bind{}}, api.OK)
	check(t, api.Program{Datas: some(t)}, api.OK)
	checkText(t, "")
	checkText(t, "data L a = N | C a (L a);")
}

func checkTexts(t *testing.T, l ...string) {
	t.Helper()
	for _, src := range l {
		checkText(t, src)
	}
}

const ofLists = "data L a = N | C a (L a); "

func TestNamesBoundAround(t *testing.T) {
	checkTexts(t,
		// By a Bind: itself, one ahead, one behind.
		"let f = f;", "let f = f f;", "let f = 1; let g = f;", "let f = g; let g = 1;", "let f = g; let g = h; let h = f;",
		"let f = #h; let g = 1;", "let f = 1; let g = #h;", "let f = g f #x; let g = f;",
		// By an ELam: in its body, and beside it.
		"let f = \\x -> x;", "let f = \\x -> \\y -> x y;", "let f = \\x -> \\y -> \\z -> (x, y, z, f);", "let f x y = x y;",
		"let f = (\\x -> x) #x;", "let f = #x (\\x -> x);", "let f = (\\x -> 1, #x);", "let f = \\x -> #y;",
		"let f = \\x -> x #y;", "let f = (\\x -> \\y -> x) (\\y -> #x);", "let f = (\\x -> \\y -> x) (\\y -> y);",
		"let f = if \\x -> x then #x else 1;", "let f = (\\x -> x, \\y -> #x);", "let f x = 1; let g = #x;",
		"let f = #x; let g x = x;",
		// By an ELet: in its second Kid, and not in its first.
		"let f = let x = 1 in x;", "let f = let x = #x in x;", "let f = let x = #x in 1;", "let f = let x = 1 in #y;",
		"let f = let x = let y = 1 in y in x;", "let f = let x = let y = 1 in y in #y;", "let f = (let x = 1 in x) #x;",
		"let f = let x = (\\y -> #x) in x;", "let f = let x = 1 in let y = x in (x, y);",
		"let f = let x = let x = 1 in x in x;", "let f = let x = let y = #x in y in x;",
		"let f = #x (let x = 1 in x);", "let f = let x = 1 in (let y = 2 in y) #y;", "let f = let f = f in f;",
		"let f = let g = g in 1; let g = 1;", "let f = (let x = 1 in 1, #x);",
		// By an alt's Names: in its Body, not in the Kid, in no other alt.
		ofLists+"let f = case f of {C x y -> x y};", ofLists+"let f = case f of {C x y -> x; N -> #x};",
		ofLists+"let f = case f of {N -> #x; C x y -> x};", ofLists+"let f = case #x of {C x y -> x};",
		ofLists+"let f = case f #y of {C x y -> x};", ofLists+"let f = (case f of {C x y -> y}) #y;",
		ofLists+"let f = #x (case f of {C x y -> y});", ofLists+"let f = case f of {C x y -> case y of {C z u -> x u z y}};",
		ofLists+"let f = case f of {C x y -> case y of {N -> x; C z u -> #v}};",
		ofLists+"let f = case f of {C x y -> case y of {N -> #z; C z u -> z}};",
		ofLists+"let f = case case f of {C x y -> x} of {C u v -> #x};",
		ofLists+"let f = case f of {C x y -> 1}; let g = #x;",
		ofLists+"let f = case f of {C x y -> \\z -> z y x; N -> \\z -> #y};")
}

func TestNamesBoundTwice(t *testing.T) {
	checkTexts(t,
		"let f = \\x -> \\x -> x;", "let f x x = x;", "let f = \\x -> (\\x -> x) x;", "let f = \\x -> (\\x -> x, x);",
		"let f = \\x -> (x, \\x -> x);", "let f = (\\x -> (\\x -> x) x) #x;", "let f = \\f -> f; let g = f;",
		"let f = \\f -> \\f -> f; let g = \\f -> f #h;", "let f = let x = 1 in let x = x in x;",
		"let f = let x = 1 in (let x = x in x) x;", "let f = let x = 1 in \\x -> x;", "let f = \\x -> let x = x in x;",
		"let f = (\\x -> let x = x in x) #x;", "let f = let f = 1 in f; let g = f;", "let f = (let f = 1 in f) f;",
		ofLists+"let f x = case x of {C x y -> x; N -> x};",
		ofLists+"let f x = case x of {N -> x; C x y -> (x, \\x -> x, x)};",
		ofLists+"let f = case f of {C x y -> case x of {C x y -> x y; N -> x y}};",
		ofLists+"let f = case f of {C x y -> case x of {C x z -> x z; N -> x #z}};",
		ofLists+"let f = case f of {C f x -> f; N -> f #x};",
		ofLists+"let f = case f of {C f f2 -> f f2; N -> f}; let g = f;",
		ofLists+"let f = (\\x -> (\\x -> \\x -> x) x, \\y -> case y of {C x z -> x z; N -> y #x});")
}

func TestCons(t *testing.T) {
	checkTexts(t,
		ofLists+"let f = N;", ofLists+"let f = C;", ofLists+"let f = C N (C 1 N);", ofLists+"let f = C N (C 1 #M);",
		ofLists+"let f = #M N;", "let f = #C;", "let f = #Int;", "let f = #Bool;", ofLists+"let f = #L;",
		ofLists+"let f = \\l -> #L;",
		"data A = B; let f = B;", "data A = B; let f = #A;", "data A = A; let f = A;", "data A = B; data B = A; let f = A B;",
		"let f = C; data A = B | C;", "let f = B; let g = #D; data A = B | C;", "data A = X; data B = Y | Z; let f = Z X Y;",
		"data A = X; data B = Y | Z; let f = Z X Y #W;", "data A a = X; let f = #F;", "data A = F1; let f1 = #F;",
		ofLists+"let f = let x = #D in y;", ofLists+"let f = \\n -> N n;", ofLists+"let c = C c; let n = #D;",
		// Of an Alt.
		ofLists+"let f = case f of {N -> 1};", ofLists+"let f = case f of {C x y -> 1};",
		ofLists+"let f = case f of {#M -> 1};", ofLists+"let f = case f of {#L -> 1};",
		ofLists+"let f = case f of {#L x -> 1};",
		"let f = case f of {#N -> 1};", ofLists+"let f = case f of {N -> 1; #M -> 1};",
		ofLists+"let f = case f of {#M -> 1; N -> 2};", ofLists+"let f = case f of {N -> 1; C x y -> 2; #M -> 3};",
		"data A = X; data B = Y | Z; let f = case f of {Z -> 1; X -> 2; Y -> 3};",
		"data A = X; data B = Y | Z; let f = case f of {Z -> 1; X -> 2; Y -> 3; #A -> 4};",
		"let f = case f of {X y -> y}; data A = X A;", "let f = case f of {#F -> 1};",
		"data A a = X; let f a = case a of {#A -> a};")
}

func TestNumbersOfNames(t *testing.T) {
	checkTexts(t,
		ofLists+"let f = case f of {#N x -> x};", ofLists+"let f = case f of {#N x y -> x};",
		ofLists+"let f = case f of {#C -> 1};",
		ofLists+"let f = case f of {#C x -> x};", ofLists+"let f = case f of {#C x y z -> x};",
		ofLists+"let f = case f of {C x y -> x; #N x -> x};", ofLists+"let f = case f of {N -> 1; #C x -> x};",
		ofLists+"let f = case f of {#N x -> x; C x y -> x};", ofLists+"let f = case f of {#C x -> x; N -> 1};",
		// The numbers of others do not count.
		"data A = X A | Y A A | Z; let f = case f of {X a -> a; Y a b -> a; Z -> 1};",
		"data A = X A | Y A A | Z; let f = case f of {#X a b -> a; Y a b -> a};",
		"data A = X A | Y A A | Z; let f = case f of {X a -> a; #Y a -> a};",
		"data A = X A | Y A A | Z; let f = case f of {X a -> a; #Z a -> a};",
		"data A a b c = X | Y (a, b, c); let f = case f of {X -> 1; Y d -> d};",
		"data A a b c = X | Y (a, b, c); let f = case f of {X -> 1; #Y a b c -> d};",
		"data A a b c = X | Y (a, b, c); let f = case f of {#X a b c -> d};",
		"data A = X (A -> A) (A, A); let f = case f of {X a b -> a};")
	for args := range 12 {
		for names := range 12 {
			bare := "data A = Y A | X" + strings.Repeat(" A", args) + "; let f = case f of {"
			l := "X"
			for i := range names {
				l += fmt.Sprint(" x", i)
			}
			if args != names {
				l = "#" + l
			}
			checkTexts(t, bare+l+" -> 1};", bare+"Y x -> x; "+l+" -> 1};", bare+l+" -> 1; Y x -> x};")
		}
	}
}

func TestTwoNames(t *testing.T) {
	checkTexts(t,
		ofLists+"let f = case f of {#C x x -> x};", ofLists+"let f = case f of {N -> 1; #C x x -> 2};",
		ofLists+"let f = case f of {#C f f -> 1; N -> 2};", ofLists+"let f x = case x of {C x y -> x};")
	// Of n Names each two.
	for n := range 7 {
		data := "data A = Y | X" + strings.Repeat(" A", n) + "; let f = case f of {Y -> f; "
		names := strings.Fields("a b c d e g h")[:n]
		checkText(t, data+"X "+strings.Join(names, " ")+" -> f};")
		for j := range n {
			for i := range j {
				l := slices.Clone(names)
				l[j] = l[i]
				checkText(t, data+"#X "+strings.Join(l, " ")+" -> f};")
			}
			l := slices.Clone(names)
			l[j] = "f"
			checkText(t, data+"X "+strings.Join(l, " ")+" -> f};")
		}
	}
}

func TestConsTwice(t *testing.T) {
	checkTexts(t,
		ofLists+"let f = case f of {N -> 1; #N -> 2};", ofLists+"let f = case f of {C x y -> 1; #C x y -> 2};",
		ofLists+"let f = case f of {C x y -> 1; #C u v -> 2};", ofLists+"let f = case f of {N -> 1; #N -> 2; N -> 3};",
		ofLists+"let f = case f of {N -> 1; C x y -> 2; #N -> 3};",
		ofLists+"let f = case f of {C x y -> 1; N -> 2; #N -> 3};",
		ofLists+"let f = case f of {N -> 1; C x y -> 2; #C x y -> 3};", ofLists+"let f = case f of {N -> 1; #N x -> 2};",
		ofLists+"let f = case f of {#N x -> 1; N -> 2};",
		// One in the other, one beside the other.
		ofLists+"let f = case f of {N -> case f of {N -> 1}};", ofLists+"let f = case case f of {N -> f} of {N -> 1};",
		ofLists+"let f = case f of {N -> case f of {N -> 1; C x y -> 2}; C x y -> case y of {C x y -> 1; N -> 2}};",
		ofLists+"let f = case f of {N -> case f of {N -> 1; C x y -> 2; #N -> 3}; C x y -> 4};",
		ofLists+"let f = case f of {N -> case f of {C x y -> 1}; C x y -> 2; #N -> 3};",
		ofLists+"let f = (case f of {N -> 1}) (case f of {N -> 1});",
		ofLists+"let f = case f of {N -> 1}; let g = case f of {N -> 1};",
		ofLists+"let f = case case f of {N -> 1; #N -> 2} of {N -> 1; N -> 2};")
	// Of n alts each two.
	for n := range 7 {
		cons := strings.Fields("A B C D E F G")[:n]
		data := "data A = " + strings.Join(append(cons, "Z"), " | ") + "; let f = case f of {"
		for j := range n {
			for i := range j {
				l := slices.Clone(cons)
				l[j] = "#" + l[i]
				checkText(t, data+strings.Join(l, " -> 1; ")+" -> 1};")
			}
		}
	}
}

// What has one name may be a Bind, a Con, a Data, a variable of types at once.
func TestNamesOfSeveralThings(t *testing.T) {
	data := func(name string, vars []string, cons ...string) api.Data {
		d := api.Data{Name: name, Vars: vars}
		for _, c := range cons {
			d.Cons = append(d.Cons, api.Con{Name: c})
		}
		return d
	}
	for _, name := range []string{"", "f", "F", "let", "->", "\xff", "é", "Int", strings.Repeat("x", 1000)} {
		other := name + "o"
		all := []api.Data{data(other, []string{name}, name)}
		bind := func(name string, body api.Expr) []api.Bind { return []api.Bind{{Name: name, Body: body}} }
		p := api.Program{Datas: all, Binds: bind(name, app(ref(name), choose(use(name), alt(name, "", ref(name)))))}
		check(t, p, api.OK)
		// Each thing alone is none of the others.
		check(t, api.Program{Datas: all, Binds: bind(other, marked(ref(name)))}, api.ErrScope)
		check(t, api.Program{Binds: bind(name, marked(use(name)))}, api.ErrScope)
		check(t, api.Program{Binds: bind(name, lam(name, let(name, ref(name), marked(use(name)))))}, api.ErrScope)
		check(t, api.Program{Binds: bind(name, choose(ref(name), markedAlt(alt(name, "", number()))))}, api.ErrScope)
		check(t, api.Program{Datas: all, Binds: bind(name, app(use(name), marked(use(other))))}, api.ErrScope)
		check(t, api.Program{Datas: all, Binds: bind(name, choose(ref(name), markedAlt(alt(other, "", number()))))},
			api.ErrScope)
		if other != "Into" {
			all = []api.Data{data(name+"x", nil, name), data(name+"y", nil, other, name+"x")}
			check(t, api.Program{Datas: all, Binds: bind(name, app(use(name+"x"), marked(use(name+"y"))))}, api.ErrScope)
		}
	}
}

func TestTheEmptyName(t *testing.T) {
	d := []api.Data{{Name: "", Cons: []api.Con{{Name: "", Args: []api.Type{{Kind: api.YCon}, {Kind: api.YCon}}}}}}
	bind := func(names ...string) (l []api.Bind) {
		for _, name := range names {
			l = append(l, api.Bind{Name: name, Body: number()})
		}
		return l
	}
	with := func(names []string, body api.Expr) api.Program {
		a := api.Alt{Names: names, Body: body}
		return api.Program{Datas: d, Binds: []api.Bind{{Name: "f", Body: choose(use(""), a)}}}
	}
	check(t, api.Program{Binds: bind("f", "", "g")}, api.OK)
	p := api.Program{Binds: bind("f", "", "g", "")}
	p.Binds[3].At = mark
	check(t, p, api.ErrScope)
	check(t, api.Program{Binds: []api.Bind{{Body: ref("")}}}, api.OK)
	check(t, api.Program{Binds: []api.Bind{{Name: "f", Body: marked(ref(""))}}}, api.ErrScope)
	check(t, api.Program{Binds: []api.Bind{{Name: "f", Body: lam("", ref(""))}}}, api.OK)
	check(t, api.Program{Binds: []api.Bind{{Name: "f", Body: let("", marked(ref("")), ref(""))}}}, api.ErrScope)
	check(t, api.Program{Binds: []api.Bind{{Name: "f", Body: let("", number(), ref(""))}}}, api.OK)
	check(t, api.Program{Binds: []api.Bind{{Name: "f", Body: marked(use(""))}}}, api.ErrScope)
	check(t, with([]string{"", "x"}, ref("")), api.OK)
	check(t, with([]string{"y", "x"}, marked(ref(""))), api.ErrScope)
	p = with([]string{"", ""}, ref(""))
	p.Binds[0].Body.Alts[0].At = mark
	check(t, p, api.ErrScope)
	p = with([]string{""}, ref(""))
	p.Binds[0].Body.Alts[0].At = mark
	check(t, p, api.ErrScope)
}

// Names are held against one another byte by byte.
func TestNamesByByte(t *testing.T) {
	for _, pair := range [][2]string{{"a", "A"}, {"é", "e\u0301"}, {"a", "a\x00"}, {"\xff", "\xfe"}, {"x", "x "},
		{"x", "xx"}, {"", "\x00"}, {strings.Repeat("x", 1000), strings.Repeat("x", 999) + "y"}} {
		one, other := pair[0], pair[1]
		d := []api.Data{{Name: one, Cons: []api.Con{{Name: one}}}}
		check(t, api.Program{Datas: d, Binds: []api.Bind{{Name: one, Body: marked(ref(other))}}}, api.ErrScope)
		check(t, api.Program{Datas: d, Binds: []api.Bind{{Name: one, Body: lam(one, marked(ref(other)))}}}, api.ErrScope)
		check(t, api.Program{Datas: d, Binds: []api.Bind{{Name: one, Body: marked(use(other))}}}, api.ErrScope)
		check(t, api.Program{Datas: d, Binds: []api.Bind{{Name: one}, {Name: other, Body: app(use(one), ref(other))}}},
			api.OK)
		d = append(d, api.Data{Name: other, Cons: []api.Con{{Name: other, Args: make([]api.Type, 2)}}})
		for i := range 2 {
			d[1].Cons[0].Args[i] = api.Type{Kind: api.YCon, Name: "Int"}
		}
		alts := []api.Alt{{Con: one, Body: use(other)}, {Con: other, Names: pair[:], Body: app(ref(one), ref(other))}}
		check(t, api.Program{Datas: d, Binds: []api.Bind{{Name: "f", Body: choose(ref("f"), alts...)}}}, api.OK)
	}
}
