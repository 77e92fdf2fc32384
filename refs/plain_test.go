package refs

import (
	"slices"
	"testing"

	"warp/api"
	"warp/progs"
)

// use is an EVar, and what is bound around it.
type use struct {
	name   string
	around []string
}

// uses tells all EVars in e, in the order in which they stand, where those names are bound around e.
func uses(e api.Expr, around []string) []use {
	var l []use
	if e.Kind == api.EVar {
		l = append(l, use{e.Name, around})
	}
	for i, kid := range e.Kids {
		if e.Kind == api.ELam || e.Kind == api.ELet && i == 1 {
			l = append(l, uses(kid, slices.Concat(around, []string{e.Name}))...)
		} else {
			l = append(l, uses(kid, around)...)
		}
	}
	for _, a := range e.Alts {
		l = append(l, uses(a.Body, slices.Concat(around, a.Names))...)
	}
	return l
}

// plainFree tells what the chapter says of Free, word by word: it lists all EVars, and looks for names in lists.
func plainFree(e api.Expr) []string {
	var l []string
	for _, u := range uses(e, nil) {
		if !slices.Contains(u.around, u.name) && !slices.Contains(l, u.name) {
			l = append(l, u.name)
		}
	}
	return l
}

// plainGraph tells that of Graph: it asks of each two Binds whether one refers to the other.
func plainGraph(l []api.Bind) [][]int {
	var g [][]int
	for _, b := range l {
		var to []int
		names := plainFree(b.Body)
		for j, other := range l {
			same := func(ahead api.Bind) bool { return ahead.Name == other.Name }
			if slices.Contains(names, other.Name) && !slices.ContainsFunc(l[:j], same) {
				to = append(to, j)
			}
		}
		g = append(g, to)
	}
	return g
}

// said tells whether the chapter says what is free in p: of an ELam, an ECase with some Kids it does not say which one
// is the Kid; and of no other kind than an ECase that it has Alts.
func said(p api.Program) bool {
	for _, e := range progs.Of(p).Exprs {
		if (e.Kind == api.ELam || e.Kind == api.ECase) && len(e.Kids) > 1 || e.Kind != api.ECase && len(e.Alts) > 0 {
			return false
		}
	}
	return true
}

// checkPlain checks that Free and Graph tell what the chapter says of p.
func checkPlain(t *testing.T, p api.Program) {
	t.Helper()
	for _, b := range p.Binds {
		checkNames(t, b.Body, plainFree(b.Body))
	}
	checkGraph(t, p.Binds, plainGraph(p.Binds))
}

// checkEnds checks that Free and Graph end, with answers that may be, twice the same.
func checkEnds(t *testing.T, p api.Program) {
	t.Helper()
	for _, b := range p.Binds {
		names := Free(b.Body)
		for i, name := range names {
			is := func(u use) bool { return u.name == name }
			if slices.Contains(names[:i], name) || !slices.ContainsFunc(uses(b.Body, nil), is) {
				t.Errorf("of %s: %q", told(of(b.Body)), names)
			}
		}
		checkNames(t, b.Body, slices.Clone(names))
	}
	var want [][]int
	for _, to := range Graph(p.Binds) {
		for i, x := range to {
			if x < 0 || x >= len(p.Binds) || i > 0 && x <= to[i-1] {
				t.Errorf("of %s: %v", told(p), to)
			}
		}
		want = append(want, slices.Clone(to))
	}
	if len(want) != len(p.Binds) {
		t.Errorf("of %s: %d lists", told(p), len(want))
	}
	checkGraph(t, p.Binds, want)
}
