package refs

import (
	"fmt"
	"slices"
	"strings"
	"testing"

	"warp/api"
	"warp/lists"
	"warp/parse"
	"warp/progs"
)

// binds tells the Binds of a text.
func binds(t *testing.T, src string) []api.Bind {
	t.Helper()
	p, e, at := parse.Parse(src)
	if e != api.OK {
		t.Fatalf("the test itself is wrong: %q: error %d at %d", src, e, at)
	}
	return p.Binds
}

// expr tells the expression that a text says.
func expr(t *testing.T, src string) api.Expr {
	t.Helper()
	return binds(t, "let it = "+src+";")[0].Body
}

// Expressions and Alts, without places.

// node tells an expression of that kind.
func node(kind int, name string, kids ...api.Expr) api.Expr {
	return api.Expr{Kind: kind, Name: name, Kids: kids}
}

func ref(name string) api.Expr                       { return node(api.EVar, name) }
func number() api.Expr                               { return node(api.EInt, "") }
func app(f, arg api.Expr) api.Expr                   { return node(api.EApp, "", f, arg) }
func lam(name string, body api.Expr) api.Expr        { return node(api.ELam, name, body) }
func let(name string, first, body api.Expr) api.Expr { return node(api.ELet, name, first, body) }

// refs tells an EVar of each of these names.
func refs(names ...string) []api.Expr {
	var l []api.Expr
	for _, name := range names {
		l = append(l, ref(name))
	}
	return l
}

// choose tells a case of e with those Alts.
func choose(e api.Expr, l ...api.Alt) api.Expr {
	return api.Expr{Kind: api.ECase, Kids: []api.Expr{e}, Alts: l}
}

func alt(body api.Expr, names ...string) api.Alt {
	return api.Alt{Con: "C", Names: names, Body: body}
}

// of tells a program of one Bind with that Body.
func of(e api.Expr) api.Program { return api.Program{Binds: []api.Bind{{Body: e}}} }

// told tells all that is in p, cut where it is long.
func told(p api.Program) string {
	s := progs.Told(p)
	return fmt.Sprintf("%s of %d bytes", s[:min(len(s), 600)], len(s))
}

// checkNames checks that Free tells these names of e, again when the answer is spoilt, and that e stays what it is.
func checkNames(t *testing.T, e api.Expr, want []string) {
	t.Helper()
	was := progs.Told(of(e))
	for range 2 {
		got := Free(e)
		if !slices.Equal(got, want) {
			t.Errorf("of %s: %q, want %q", told(of(e)), got, want)
		}
		lists.Scribble(got, "spoilt")
	}
	if progs.Told(of(e)) != was {
		t.Errorf("%s: it was another", told(of(e)))
	}
}

// binding tells expressions that bind that name around all of e.
func binding(name string, e api.Expr) []api.Expr {
	n := number()
	return []api.Expr{lam(name, e), let(name, n, e), choose(n, alt(e, name)), choose(n, alt(n), alt(e, name), alt(n)),
		choose(n, alt(e, name, name)), choose(n, alt(e, "unused", name)), choose(n, alt(e, name, "unused")),
		lam(name, lam(name, e)), lam(name, app(lam(name, n), e)), lam("unused", let(name, n, app(n, e)))}
}

// beside tells expressions that bind that name, but not around e.
func beside(name string, e api.Expr) []api.Expr {
	n := number()
	return []api.Expr{app(lam(name, n), e), app(e, lam(name, n)), let(name, e, n), app(let(name, n, n), e),
		choose(e, alt(n, name)), choose(n, alt(n, name), alt(e)), choose(n, alt(e), alt(n, name)), node(api.ECon, name, e),
		node(api.EIf, name, n, e, lam(name, lam(name, n))), node(api.ETuple, name, n, lam(name, n), e, n),
		let("unused", lam(name, n), e), choose(n, alt(lam(name, n)), api.Alt{Con: name, Body: e})}
}

// checkFree checks that Free tells these names of e; the others, where one is bound around all (14.2), and all where
// one is bound beside it.
func checkFree(t *testing.T, e api.Expr, want ...string) {
	t.Helper()
	checkNames(t, e, want)
	for _, name := range append([]string{"q0", ""}, want...) {
		others := slices.DeleteFunc(slices.Clone(want), func(s string) bool { return s == name })
		for _, outer := range binding(name, e) {
			checkNames(t, outer, others)
		}
		for _, outer := range beside(name, e) {
			checkNames(t, outer, want)
		}
	}
}

// checkTexts checks what Free tells of each text: the names that stand beside it.
func checkTexts(t *testing.T, rows [][2]string) {
	t.Helper()
	for _, row := range rows {
		e := expr(t, row[0])
		want := strings.Fields(row[1])
		checkFree(t, e, want...)
		if got := plainFree(e); !slices.Equal(got, want) {
			t.Errorf("%q: the test itself is wrong: %q, want %q", row[0], got, want)
		}
	}
}

// checkGraph checks that Graph tells that of l, again when the answer is spoilt, and that l stays what it is.
func checkGraph(t *testing.T, l []api.Bind, want [][]int) {
	t.Helper()
	p := api.Program{Binds: l}
	was := progs.Told(p)
	for range 2 {
		got := Graph(l)
		if !slices.EqualFunc(got, want, slices.Equal[[]int]) {
			t.Errorf("of %s: %v, want %v", told(p), got, want)
		}
		for _, inner := range got {
			lists.Scribble(inner, -7)
		}
		lists.Scribble(got, []int{-7})
	}
	if progs.Told(p) != was {
		t.Errorf("%s: it was another", told(p))
	}
}

// checkGraphs checks what Graph tells of each text: what stands beside it, of each Bind the places, then `;`.
func checkGraphs(t *testing.T, rows [][2]string) {
	t.Helper()
	for _, row := range rows {
		l := binds(t, row[0])
		want := plainGraph(l)
		checkGraph(t, l, want)
		s := ""
		for _, inner := range want {
			s += strings.Trim(fmt.Sprint(inner), "[]") + ";"
		}
		if s != row[1] {
			t.Errorf("%q: the test itself is wrong: %q, want %q", row[0], s, row[1])
		}
	}
}
