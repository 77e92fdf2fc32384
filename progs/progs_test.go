package progs

import (
	"slices"
	"strings"
	"testing"

	"warp/api"
	"warp/lists"
	"warp/plays"
)

// sample tells a program that has each kind of part, with all places other ones; each time a new one.
func sample() api.Program {
	v := func(at int, name string) api.Expr { return api.Expr{Kind: api.EVar, At: at, Name: name} }
	types := []api.Type{{Kind: api.YVar, N: 1},
		{Kind: api.YCon, Name: "G", Kids: []api.Type{{Kind: api.YVar, N: -1, Name: "c"}}}}
	cases := api.Expr{Kind: api.ECase, At: 8, Kids: []api.Expr{{Kind: api.EInt, At: 9, N: 70}}, Alts: []api.Alt{
		{At: 10, Con: "I", Names: []string{"h", "i"}, Body: v(11, "j")}, {At: 12, Con: "J", Body: v(13, "k")}}}
	return api.Program{
		Datas: []api.Data{{Name: "D", At: 1, Vars: []string{"a", "b"}, Cons: []api.Con{{Name: "E", At: 2},
			{Name: "F", At: 3, Args: types}}}, {Name: "H", At: 4}},
		Binds: []api.Bind{{Name: "f", At: 5, Body: api.Expr{Kind: api.EApp, At: 6, Kids: []api.Expr{v(7, "g"), cases}}},
			{Name: "l", At: 14, Body: v(15, "m")}},
	}
}

func TestParts(t *testing.T) {
	x := Of(sample())
	var got []string
	for _, d := range x.Datas {
		got = append(got, d.Name)
	}
	for _, c := range x.Cons {
		got = append(got, c.Name)
	}
	for _, y := range x.Types {
		got = append(got, y.Name)
	}
	for _, b := range x.Binds {
		got = append(got, b.Name)
	}
	for _, a := range x.Alts {
		got = append(got, a.Con)
	}
	for _, e := range x.Exprs {
		got = append(got, string(rune('0'+e.Kind))+e.Name)
	}
	if s := strings.Join(got, " "); s != "D H E F  G c f l I J 5 1g : 3 1j 1k 1m" {
		t.Errorf("%q", s)
	}
	p := sample()
	Of(p).Types[2].Name, Of(p).Exprs[4].Name = "q", "r"
	if p.Datas[0].Cons[1].Args[1].Kids[0].Name != "q" || p.Binds[0].Body.Kids[1].Alts[0].Body.Name != "r" {
		t.Error("a part is not where it stands")
	}
}

func TestTexts(t *testing.T) {
	l := Texts(sample())
	slices.Sort(l)
	l = slices.DeleteFunc(l, func(s string) bool { return s == "" })
	if s := strings.Join(l, ""); s != "DEFGHIJabcfghijklm" {
		t.Errorf("%q", s)
	}
	if len(Texts(api.Program{})) != 0 {
		t.Error("of nothing")
	}
}

func TestPlaces(t *testing.T) {
	p, seen := sample(), map[int]int{}
	was := Told(p)
	for _, at := range Places(p) {
		seen[*at]++
		*at = 77
		if Told(p) == was {
			t.Errorf("place %d is not in what was handed in", *at)
		}
		was = Told(p)
	}
	for at := 1; at <= 15; at++ {
		if seen[at] != 1 {
			t.Errorf("place %d is told %d times", at, seen[at])
		}
	}
	if len(seen) != 15 || len(Places(api.Program{})) != 0 {
		t.Errorf("%v", seen)
	}
}

// changes tells what changes one thing of a sample each: of a place, if it is so, or something else.
func changes(places bool) []func(x *Parts) {
	if places {
		return []func(x *Parts){func(x *Parts) { x.Datas[1].At++ }, func(x *Parts) { x.Cons[1].At++ },
			func(x *Parts) { x.Binds[0].At = -1 }, func(x *Parts) { x.Exprs[0].At++ },
			func(x *Parts) { x.Exprs[6].At = 0 }, func(x *Parts) { x.Alts[1].At++ }}
	}
	return []func(x *Parts){func(x *Parts) { x.Datas[0].Name += "x" }, func(x *Parts) { x.Datas[0].Vars[1] = "c" },
		func(x *Parts) { x.Datas[0].Vars = []string{"ab"} }, func(x *Parts) { x.Datas[0].Vars = nil },
		func(x *Parts) { x.Datas[1].Cons = make([]api.Con, 1) }, func(x *Parts) { x.Cons[0].Name = "" },
		func(x *Parts) { x.Cons[0].Args = x.Cons[1].Args }, func(x *Parts) { x.Types[0].Kind++ },
		func(x *Parts) { x.Types[0].N++ }, func(x *Parts) { x.Types[2].Name = "\"" },
		func(x *Parts) { x.Types[1].Kids = nil }, func(x *Parts) { x.Types[2].Kids = make([]api.Type, 2) },
		func(x *Parts) { x.Binds[1].Name = "f" }, func(x *Parts) { x.Exprs[1].Kind++ },
		func(x *Parts) { x.Exprs[3].N = 0 }, func(x *Parts) { x.Exprs[3].Name = "g" },
		func(x *Parts) { x.Exprs[6].Kids = make([]api.Expr, 1) }, func(x *Parts) { slices.Reverse(x.Exprs[0].Kids) },
		func(x *Parts) { x.Exprs[2].Alts = x.Exprs[2].Alts[:1] }, func(x *Parts) { x.Alts[0].Con = "j" },
		func(x *Parts) { x.Alts[0].Names[0] = "i" }, func(x *Parts) { x.Alts[0].Names = nil },
		func(x *Parts) { x.Alts[1].Body.Name = "j" }}
}

func TestTold(t *testing.T) {
	seen := map[string]int{Told(sample()): 1}
	for _, places := range []bool{true, false} {
		for i, change := range changes(places) {
			p := sample()
			change(Of(p))
			if seen[Told(p)]++; seen[Told(p)] > 1 {
				t.Errorf("change %d of places %v is not told", i, places)
			}
			if (Bare(p) == Bare(sample())) != places {
				t.Errorf("change %d of places %v: %s", i, places, Bare(p))
			}
		}
	}
	p := sample()
	p.Datas[1].Cons, p.Binds[1].Body.Kids, p.Datas[0].Cons[0].Args = []api.Con{}, []api.Expr{}, []api.Type{}
	if Told(p) != Told(sample()) || Told(api.Program{}) != "" {
		t.Error("a nil list is no empty one")
	}
}

func TestMemory(t *testing.T) {
	if p := sample(); Shared(p) || Shared(p, sample(), sample()) || !Shared(p, sample(), p) || Shared() {
		t.Error("of a sample")
	}
	for i, change := range []func(x *Parts){func(x *Parts) { x.Datas[1].Cons = x.Datas[0].Cons[:0] },
		func(x *Parts) { x.Datas[1].Vars = x.Datas[0].Vars[1:] }, func(x *Parts) { x.Cons[0].Args = x.Types[1].Kids },
		func(x *Parts) { x.Types[0].Kids = x.Types[1].Kids[:0] },
		func(x *Parts) { x.Exprs[4].Kids = x.Exprs[0].Kids[:1] },
		func(x *Parts) { x.Exprs[6].Alts = x.Exprs[2].Alts[1:] }, func(x *Parts) { x.Alts[1].Names = x.Alts[0].Names },
		func(x *Parts) { x.Alts[0].Names = x.Datas[0].Vars },
		func(x *Parts) {
			l := lists.Roomy([]string{"a"}, "b")
			x.Alts[0].Names, x.Alts[1].Names = l, l[1:2]
		}} {
		p := sample()
		change(Of(p))
		if !Shared(p) {
			t.Errorf("change %d", i)
		}
	}
	datas, binds := make([]api.Data, 3), make([]api.Bind, 3)
	if !Shared(api.Program{Datas: datas}, api.Program{Datas: datas[1:1]}) ||
		!Shared(api.Program{Binds: binds[:1]}, api.Program{Binds: binds[2:]}) ||
		Shared(api.Program{Datas: datas}, sample(), api.Program{Binds: binds}) {
		t.Error("of Datas, of Binds")
	}
}

func TestScribbleWritesIntoEachList(t *testing.T) {
	p := sample()
	x := Of(p)
	p.Datas[0].Vars = lists.Roomy(p.Datas[0].Vars, "a")
	vars, names := p.Datas[0].Vars, x.Alts[0].Names
	Scribble(p)
	for i, s := range []string{vars[0], vars[:cap(vars)][len(vars)], names[1]} {
		if s != "spoilt" {
			t.Errorf("text %d is %q", i, s)
		}
	}
	for _, d := range x.Datas {
		if d.Name != "no" {
			t.Error("of Datas")
		}
	}
	for _, c := range x.Cons {
		if c.Name != "no" {
			t.Error("of Cons")
		}
	}
	for _, y := range x.Types {
		if y.Kind != 77 {
			t.Error("of types")
		}
	}
	for _, b := range x.Binds {
		if b.Name != "No" {
			t.Error("of Binds")
		}
	}
	for _, e := range x.Exprs[1:4] {
		if e.Kind != 77 {
			t.Error("of expressions")
		}
	}
	for _, a := range x.Alts {
		if a.Con != "no" {
			t.Error("of Alts")
		}
	}
}

// TestDrawn looks whether all that there is is drawn: each kind within each that has Kids, each number of parts.
func TestDrawn(t *testing.T) {
	next, kids, sizes := plays.Below(131), map[[2]int]int{}, map[[3]int]int{}
	types, unknown := map[string]int{}, 0
	for range 3000 {
		x := Of(Drawn(next))
		for _, e := range x.Exprs {
			for _, kid := range e.Kids {
				kids[[2]int{e.Kind, kid.Kind}]++
			}
			sizes[[3]int{e.Kind, len(e.Kids), len(e.Alts)}]++
		}
		for _, y := range x.Types {
			for _, kid := range y.Kids {
				types[y.Name[:1]+" "+kid.Name]++
			}
			if y.N < 0 {
				unknown++
			}
		}
	}
	for kind := api.EVar; kind <= api.ECase; kind++ {
		for outer := api.EApp; outer <= api.ECase; outer++ {
			if n := kids[[2]int{outer, kind}]; n < 50 {
				t.Errorf("kind %d in kind %d is drawn %d times", kind, outer, n)
			}
		}
	}
	for _, outer := range []string{"-", ",", "C", "L"} {
		for _, s := range []string{"->", ",", "C", "Let", "", "x"} {
			if types[outer+" "+s] < 20 {
				t.Errorf("type %q in type %q is drawn %d times", s, outer, types[outer+" "+s])
			}
		}
	}
	if sizes[[3]int{api.ETuple, 8}] == 0 || sizes[[3]int{api.ECase, 1, 3}] == 0 || unknown == 0 {
		t.Error("too little is drawn")
	}
	one, same, other := Drawn(plays.Below(2)), Drawn(plays.Below(2)), Drawn(plays.Below(3))
	if Told(one) != Told(same) || Told(one) == Told(other) {
		t.Error("not by what is handed in")
	}
}

func TestDrawnExprIsNotTooDeep(t *testing.T) {
	next, most := plays.Below(132), 0
	var deep func(e api.Expr) int
	deep = func(e api.Expr) int {
		n := 0
		for _, kid := range e.Kids {
			n = max(n, deep(kid))
		}
		for _, a := range e.Alts {
			n = max(n, deep(a.Body))
		}
		return n + 1
	}
	for range 1000 {
		most = max(most, deep(DrawnExpr(next, 6)))
	}
	if most != 6 {
		t.Errorf("%d deep", most)
	}
}
