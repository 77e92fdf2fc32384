package scope

import (
	"fmt"
	"math"
	"strings"
	"testing"

	"warp/api"
	"warp/lists"
	"warp/plays"
	"warp/progs"
)

// R1: the same call tells the same; every call ends, and none panics.

func TestTheSameAgain(t *testing.T) {
	next := plays.Below(134)
	for i := range 2000 {
		p := changed(t, next, i%4)
		e, at := Check(p)
		for range 3 {
			Check(changed(t, next, 1))
			checkOnce(t, p, e, at)
		}
	}
}

// What was handed in is not kept: whoever writes into it changes no answer that is still to come.
func TestNothingIsKept(t *testing.T) {
	next := plays.Below(135)
	for range 500 {
		p, q := right(t, next), right(t, next)
		check(t, p, api.OK)
		progs.Scribble(p)
		Check(p)
		check(t, q, api.OK)
		check(t, api.Program{Binds: []api.Bind{{Name: "h", Body: marked(ref("f"))}}}, api.ErrScope)
		check(t, api.Program{Binds: []api.Bind{{Name: "h", Body: marked(use("N"))}}}, api.ErrScope)
	}
}

// TestListsThatShareMemory hands in lists of one memory, with spare room behind that has what is wrong.
func TestListsThatShareMemory(t *testing.T) {
	wrong := ref("q")
	names := lists.Roomy([]string{"x", "y", "z"}, "x")
	pair := lists.Roomy([]api.Expr{ref("f"), use("N")}, wrong)
	alts := lists.Roomy([]api.Alt{{Con: "N", Body: api.Expr{Kind: api.EApp, Kids: pair}},
		{Con: "C", Names: names[:2], Body: ref("y")}, {Con: "T3", Names: names, Body: ref("z")},
		{Con: "T1", Names: names[2:], Body: ref("z")}}, api.Alt{Con: "N", Body: wrong})
	kids := lists.Roomy([]api.Expr{{Kind: api.ECase, Kids: pair[:1], Alts: alts}, {Kind: api.EApp, Kids: pair},
		{Kind: api.ECase, Kids: pair[1:], Alts: alts[2:]}, {Kind: api.ELam, Name: "f", Kids: pair[:1]}}, wrong)
	binds := lists.Roomy([]api.Bind{{Name: "f", Body: api.Expr{Kind: api.ETuple, Kids: kids}}, {Name: "g",
		Body: api.Expr{Kind: api.ETuple, Kids: kids[1:]}}}, api.Bind{Name: "f", Body: wrong})
	p := api.Program{Datas: lists.Roomy(some(t), api.Data{Name: "Int"}), Binds: binds}
	check(t, p, api.OK)
	if names[:4][3] != "x" || pair[:3][2].Name != "q" || alts[:5][4].Con != "N" || kids[:5][4].Name != "q" ||
		binds[:3][2].Name != "f" || p.Datas[:4][3].Name != "Int" {
		t.Error("spare room is another")
	}
}

// Of what no sentence says anything a call ends, too: kinds that there are not, too few and too many Kids and Alts.
func TestWrongInputsEnd(t *testing.T) {
	for _, kind := range []int{math.MinInt, -1, 0, 1, 2, 3, 4, 5, 6, 7, 8, 9, 10, 11, 77, 1<<32 + api.EVar, math.MaxInt} {
		for _, name := range []string{"", "f", "x", "q", "N", "Q", "\xff", strings.Repeat("x", 1000)} {
			for kids := range 10 {
				for alts := range 4 {
					e := api.Expr{Kind: kind, Name: name, N: kids - 4, Alts: make([]api.Alt, alts)}
					for i := range kids {
						e.Kids = append(e.Kids, node((kind+i)%12, name))
					}
					for i := range alts {
						e.Alts[i] = alt([]string{"N", "C", name}[i], strings.Repeat(" x y"[:2*i], i), node(kind, name))
					}
					for _, body := range []api.Expr{e, lam("q", e), choose(e, alt("N", "", e))} {
						checkEnds(t, three(t, number(), body, e))
					}
				}
			}
		}
	}
	checkEnds(t, api.Program{Datas: make([]api.Data, 3), Binds: make([]api.Bind, 3)})
	checkEnds(t, api.Program{Datas: make([]api.Data, 1), Binds: make([]api.Bind, 1)})
	checkEnds(t, api.Program{Datas: []api.Data{{Cons: make([]api.Con, 1)}}, Binds: make([]api.Bind, 1)})
}

// What has a kind that there is not names nothing, but what is in it may be wrong.
func TestKindsThatThereAreNot(t *testing.T) {
	for _, kind := range []int{0, -1, -2, 11, 77, 256 + api.EVar, 1<<32 + api.EVar, 1<<32 + api.ECon, math.MinInt,
		math.MaxInt} {
		for _, name := range []string{"", "q", "Q", "f", "N"} {
			for n := range 10 {
				for i := range n {
					kids := make([]api.Expr, n)
					kids[i] = lam("x", ref("x"))
					check(t, three(t, number(), node(kind, name, kids...), number()), api.OK)
					kids[i] = lam("x", marked(ref("q")))
					check(t, three(t, number(), node(kind, name, kids...), number()), api.ErrScope)
					kids[i] = app(number(), marked(use("Q")))
					check(t, three(t, number(), node(kind, name, kids...), ref("q")), api.ErrScope)
					// It binds nothing, either.
					kids[i] = marked(ref("y"))
					check(t, three(t, number(), node(kind, "y", kids...), number()), api.ErrScope)
				}
				check(t, three(t, ref("f"), node(kind, name, make([]api.Expr, n)...), number()), api.OK)
			}
		}
	}
}

// What is there stays there, however many Kids and Alts there are.
func TestTooFewAndTooManyKids(t *testing.T) {
	for kind := api.EVar; kind <= api.ECase; kind++ {
		for n := range 12 {
			kids := make([]api.Expr, n)
			e := node(kind, "f", kids...)
			if kind == api.ECon {
				e.Name = "N"
			}
			check(t, three(t, number(), e, e), api.OK)
			for i := range n {
				if kind == api.ELam && i > 0 || kind == api.ECase && i > 0 {
					continue
				}
				kids[i] = marked(ref("q"))
				check(t, three(t, number(), e, ref("f")), api.ErrScope)
				kids[i] = number()
			}
		}
	}
	// An ELet binds its Name in its second Kid alone.
	for n := range 6 {
		for i := range n {
			kids := make([]api.Expr, n)
			if kids[i] = ref("x"); i != 1 {
				kids[i].At = mark
			}
			check(t, three(t, number(), node(api.ELet, "x", kids...), number()),
				map[bool]api.Errno{true: api.OK, false: api.ErrScope}[i == 1])
		}
	}
	// A case without a Kid, without alts.
	check(t, three(t, node(api.ECase, ""), choose(ref("f")), number()), api.OK)
	check(t, three(t, number(), choose(marked(ref("q"))), number()), api.ErrScope)
	bare := node(api.ECase, "")
	bare.Alts = []api.Alt{alt("N", "", number()), markedAlt(alt("Q", "", number()))}
	check(t, three(t, number(), bare, number()), api.ErrScope)
	bare.Alts = []api.Alt{alt("N", "", number()), alt("C", "x y", app(ref("x"), marked(ref("q"))))}
	check(t, three(t, number(), bare, number()), api.ErrScope)
}

// nested tells an expression that has inner in it so deep, where x and y are bound.
func nested(deep int, inner api.Expr) api.Expr {
	e := inner
	for i := range deep {
		switch i % 5 {
		case 0:
			e = lam("x", e)
		case 1:
			e = let("y", number(), e)
		case 2:
			e = choose(number(), alt("C", "x y", e))
		case 3:
			e = app(e, number())
		case 4:
			e = lam(fmt.Sprint("x", i), node(api.EIf, "", number(), number(), e))
		}
	}
	return e
}

func TestDeepExprs(t *testing.T) {
	for _, deep := range []int{3, 59, 60, 61, 1000, 50000} {
		check(t, three(t, number(), nested(deep, app(ref("x"), ref("y"))), number()), api.OK)
		check(t, three(t, number(), nested(deep, marked(ref("q"))), ref("q")), api.ErrScope)
		check(t, three(t, number(), number(), nested(deep, choose(number(), alt("C", "z z2", ref("z")),
			markedAlt(alt("C", "x y", number()))))), api.ErrScope)
		check(t, three(t, number(), app(nested(deep, number()), marked(ref("x"))), number()), api.ErrScope)
		left := number()
		for range deep {
			left = app(let("x", left, ref("x")), number())
		}
		check(t, three(t, number(), left, number()), api.OK)
	}
}

// TestMany hands in so many of each thing that holding each against each other one would not end soon.
func TestMany(t *testing.T) {
	const n = 1 << 16
	d := api.Data{Name: "D"}
	p := api.Program{Binds: make([]api.Bind, n)}
	each := choose(number())
	names, all := make([]string, n), make([]api.Type, n)
	for i := range n {
		names[i], all[i] = fmt.Sprint("v", i), api.Type{Kind: api.YCon, Name: "Int"}
		d.Cons = append(d.Cons, api.Con{Name: fmt.Sprint("C", i)})
		each.Alts = append(each.Alts, api.Alt{Con: fmt.Sprint("C", n-1-i), Body: ref(fmt.Sprint("f", i))})
		p.Binds[i] = api.Bind{Name: fmt.Sprint("f", i), Body: app(ref(fmt.Sprint("f", n-1-i)), use(fmt.Sprint("C", i)))}
	}
	d.Cons = append(d.Cons, api.Con{Name: "C", Args: all})
	p.Datas = []api.Data{d}
	each.Alts = append(each.Alts, api.Alt{Con: "C", Names: names, Body: ref(names[n-1])})
	p.Binds[n-1].Body = each
	checkAnswer(t, p, api.OK, 0)
	each.Alts[n].Body = api.Expr{Kind: api.EVar, Name: "v", At: 5}
	checkAnswer(t, p, api.ErrScope, 5)
	names[n-1], each.Alts[n].At = names[0], 6
	checkAnswer(t, p, api.ErrScope, 6)
	each.Alts[n-1].Con, each.Alts[n-1].At = each.Alts[0].Con, 7
	checkAnswer(t, p, api.ErrScope, 7)
	p.Binds[n-1].Name, p.Binds[n-1].At = "f0", 8
	checkAnswer(t, p, api.ErrScope, 8)
	p.Datas[0].Cons[n].Name, p.Datas[0].Cons[n].At = "C0", 9
	checkAnswer(t, p, api.ErrData, 9)
}

func TestManyThatAreNothing(t *testing.T) {
	const n = 1 << 18
	checkAnswer(t, api.Program{Binds: []api.Bind{{Body: node(0, "", make([]api.Expr, n)...)}}}, api.OK, 0)
	p := api.Program{Binds: make([]api.Bind, n)}
	p.Binds[1].At = 7
	checkAnswer(t, p, api.ErrScope, 7)
	e := choose(number(), make([]api.Alt, n)...)
	e.Alts[0].At = 8
	checkAnswer(t, api.Program{Binds: []api.Bind{{Body: e}}}, api.ErrScope, 8)
	e.Alts[0].Names = make([]string, n)
	checkAnswer(t, api.Program{Binds: []api.Bind{{Body: e}}}, api.ErrScope, 8)
}
