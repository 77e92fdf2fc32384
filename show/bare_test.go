package show

import (
	"math"
	"strings"
	"testing"
	"unsafe"

	"warp/api"
	"warp/lists"
	"warp/plays"
	"warp/progs"
)

// Promise 11.1: Bare.

// placed tells p with all places other ones, none of them 0.
func placed(p api.Program) api.Program {
	for i, at := range progs.Places(p) {
		*at = []int{1 + i, -1 - i, math.MaxInt - i, math.MinInt + i}[i%4]
	}
	return p
}

// checkBare checks that Bare changes all places of p, and nothing else.
func checkBare(t *testing.T, p api.Program) {
	t.Helper()
	was := progs.Told(p)
	q := Bare(p)
	if progs.Bare(q) != progs.Bare(p) {
		t.Errorf("%s, want %s", said(progs.Bare(q)), said(progs.Bare(p)))
	}
	for i, at := range progs.Places(q) {
		if *at != 0 {
			t.Errorf("%s: place %d is %d", said(progs.Told(q)), i, *at)
		}
	}
	if progs.Told(p) != was {
		t.Errorf("now another: %s", said(was))
	}
	if progs.Told(Bare(q)) != progs.Told(q) || progs.Told(Bare(p)) != progs.Told(q) {
		t.Errorf("%s: another again", said(was))
	}
}

func TestBareOfNothing(t *testing.T) {
	if p := Bare(api.Program{}); len(p.Datas)+len(p.Binds) != 0 {
		t.Errorf("%+v", p)
	}
	if p := Bare(api.Program{Datas: []api.Data{}, Binds: []api.Bind{}}); len(p.Datas)+len(p.Binds) != 0 {
		t.Errorf("%+v", p)
	}
}

func TestBareOfEachPlace(t *testing.T) {
	p := whole(t)
	checkBare(t, p)
	for _, at := range progs.Places(p) {
		for _, x := range []int{1, -1, 65536, math.MinInt, math.MaxInt} {
			*at = x
			checkBare(t, p)
			*at = 0
		}
	}
	checkBare(t, placed(p))
}

func TestBareOfDrawnPrograms(t *testing.T) {
	next := plays.Below(121)
	for range 1000 {
		checkBare(t, placed(progs.Drawn(next)))
	}
}

// Of what may not be Bare is told, too.
func TestBareOfWhatMayNotBe(t *testing.T) {
	next := plays.Below(122)
	for range 1000 {
		checkBare(t, placed(changed(next, 5)))
	}
	e := node(77, "No", api.Expr{Kind: -3, At: 9, N: math.MinInt, Alts: []api.Alt{{}, {Names: []string{"", "X"}}}})
	y := api.Type{Kind: -8, N: 5, Name: " ", Kids: []api.Type{{}, {N: -9, Name: "->", Kids: []api.Type{{Kind: 2}}}}}
	checkBare(t, placed(api.Program{Datas: []api.Data{{}, {Name: "?", Vars: []string{"", ""}, Cons: []api.Con{{},
		{Name: "c", Args: []api.Type{y, {}}}}}}, Binds: []api.Bind{{}, {Name: "-", Body: e}}}))
	deep, wide := node(api.EVar, "x"), variable(1)
	for range 60000 {
		deep.At, wide.N = 7, 3
		deep, wide = node(api.ELam, "x", deep), typ("D", wide)
	}
	p := declared("", wide)
	p.Binds = bound(deep).Binds
	checkBare(t, p)
}

// R3: what is told is new memory; what is handed in is neither changed nor kept.

func TestNoTwoListsShareMemory(t *testing.T) {
	next := plays.Below(123)
	for range 300 {
		p := changed(next, next(3))
		if progs.Shared(p) {
			continue
		}
		if progs.Shared(p, Bare(p), Bare(p)) {
			t.Fatalf("%s: two lists share memory", said(progs.Told(p)))
		}
	}
}

// TestListsThatShareMemory hands in a program with two of each of its lists in one memory, and spare room behind.
func TestListsThatShareMemory(t *testing.T) {
	p := whole(t)
	e := lists.Roomy([]api.Expr{named("x"), named("y")}, named("no"))
	y := lists.Roomy([]api.Type{variable(0)}, variable(1))
	d := declared("a", typ("D", y...), typ("E", y...), typ("->", y[:2]...))
	b := bound(node(api.ETuple, "", node(api.EApp, "", e...), node(api.ELam, "z", e[:1]...)))
	p.Datas = append(lists.Roomy(p.Datas, api.Data{}), d.Datas...)
	p.Binds = append(p.Binds, b.Binds...)
	checkBare(t, p)
	q := Bare(p)
	if progs.Shared(q) || progs.Shared(q, Bare(p)) || !progs.Shared(p) {
		t.Error("two lists share memory")
	}
	want := progs.Told(q)
	progs.Scribble(p)
	if progs.Told(q) != want {
		t.Error("what is told became another")
	}
}

func TestWritingChangesNothing(t *testing.T) {
	next := plays.Below(124)
	for range 300 {
		p := placed(progs.Drawn(next))
		was, text := progs.Told(p), Program(p)
		one, other := Bare(p), Bare(p)
		want := progs.Told(other)
		progs.Scribble(one)
		if progs.Told(p) != was || progs.Told(other) != want {
			t.Fatalf("%s: writing into what is told changed it", said(was))
		}
		if s := Program(p); s != text || !May(p) || Program(other) != text {
			t.Fatalf("%s: another text", said(was))
		}
		progs.Scribble(p)
		if progs.Told(other) != want {
			t.Fatalf("%s: writing into what was handed in changed what is told", said(was))
		}
	}
}

func TestTextsAreNoPieces(t *testing.T) {
	src := strings.Clone("Data Con a bee Dee f x y z Alt name")
	part := func(low, high int) string { return src[low:high] }
	con := api.Con{Name: part(5, 8), Args: []api.Type{unknown(part(11, 14)), typ(part(15, 18))}}
	body := choose(named(part(21, 22)),
		api.Alt{Con: part(27, 30), Names: []string{part(31, 35)}, Body: node(api.ELam, part(23, 24), number(1))})
	p := api.Program{Datas: []api.Data{{Name: part(0, 4), Vars: []string{part(9, 10)}, Cons: []api.Con{con}}},
		Binds: []api.Bind{{Name: part(19, 20), Body: body}}}
	checkText(t, p, "data Data a = Con bee Dee;\nlet f = case x of {Alt name -> \\y -> 1};\n")
	low := uintptr(unsafe.Pointer(unsafe.StringData(src)))
	for _, s := range progs.Texts(Bare(p)) {
		at := uintptr(unsafe.Pointer(unsafe.StringData(s)))
		if s != "" && at >= low && at < low+uintptr(len(src)) {
			t.Errorf("%q is a piece of what was handed in", s)
		}
	}
	name := strings.Clone("a_name")
	if s := Expr(named(name)); s != name || unsafe.StringData(s) == unsafe.StringData(name) {
		t.Errorf("%q is what was handed in", s)
	}
}

// R1: the same call tells the same; every call ends, and none panics.

func TestTheSameAgain(t *testing.T) {
	next := plays.Below(125)
	for range 500 {
		p := placed(changed(next, next(3)))
		may, text, was := May(p), Program(p), progs.Told(p)
		for range 3 {
			May(whole(t))
			Program(whole(t))
			Expr(node(api.EApp, "", named("f")))
			if May(p) != may || Program(p) != text || progs.Told(p) != was {
				t.Fatalf("%s: another answer", said(was))
			}
		}
		for _, e := range progs.Of(p).Exprs {
			s := Expr(*e)
			if Expr(*e) != s || progs.Told(p) != was {
				t.Fatalf("%s: another text of an expression", said(was))
			}
		}
	}
}

// TestPlacesDoNotCount tells programs with places as text: they have that of what has none.
func TestPlacesDoNotCount(t *testing.T) {
	next := plays.Below(126)
	for range 500 {
		p := changed(next, next(2))
		may, text := May(p), Program(p)
		if placed(p); May(p) != may || Program(p) != text {
			t.Fatalf("%s: other with places", said(progs.Told(p)))
		}
	}
}

// Whatever is handed in, Expr ends: of what may stand in no program it tells nothing.
func TestExprOfWhatMayNotBe(t *testing.T) {
	next := plays.Below(127)
	for range 3000 {
		for _, e := range progs.Of(changed(next, 3)).Exprs {
			if s := Expr(*e); (s != "") != sayable(bound(*e)) {
				t.Fatalf("%s of %s", said(s), said(progs.Told(bound(*e))))
			}
		}
	}
	for kind := -2; kind < 14; kind++ {
		for n := range 20 {
			kids := make([]api.Expr, n)
			Expr(api.Expr{Kind: kind, Kids: kids, Alts: make([]api.Alt, n)})
			May(bound(api.Expr{Kind: kind, Kids: kids, Alts: make([]api.Alt, n)}))
			Program(declared("", api.Type{Kind: kind, N: n - 5, Kids: make([]api.Type, n)}))
			Program(declared("", api.Type{Kind: kind, N: n - 5, Name: "->", Kids: make([]api.Type, n)}))
		}
	}
}

func TestWideAndDeepWrongInputs(t *testing.T) {
	const n = 1 << 18
	if s := Expr(node(api.EApp, "", make([]api.Expr, n)...)); s != "" {
		t.Error(said(s))
	}
	if s := Expr(node(api.ETuple, "", make([]api.Expr, n)...)); s != "" {
		t.Error(said(s))
	}
	if s := Expr(deepened(1<<16-3, 0, api.Expr{})); s != "" {
		t.Error(said(s))
	}
	if p := bound(deepened(1<<16-3, 7, api.Expr{})); May(p) || Program(p) != "" {
		t.Error("deep, and wrong")
	}
	d := api.Data{Name: "D", Vars: make([]string, n), Cons: make([]api.Con, n)}
	for _, p := range []api.Program{{Datas: make([]api.Data, n)}, {Binds: make([]api.Bind, n)},
		declared("", make([]api.Type, n)...), {Datas: []api.Data{d}}} {
		if May(p) || Program(p) != "" || progs.Bare(Bare(p)) != progs.Bare(p) {
			t.Error("wide, and wrong")
		}
	}
}
