package scope

import (
	"slices"
	"testing"

	"warp/api"
	"warp/data"
)

// plain tells what the chapter says, word by word: it lists all that is wrong, and looks for names in lists.
type plain struct {
	datas []api.Data
	names []string // of Binds
	found []fault
}

// fault is something that is wrong: what, and where.
type fault struct {
	what string
	at   int
}

// faults tells all that is wrong in the Binds of p, in order.
func faults(p api.Program) []fault {
	w := &plain{datas: p.Datas}
	for _, b := range p.Binds {
		w.put(slices.Contains(w.names, b.Name), "name of a Bind", b.At)
		w.names = append(w.names, b.Name)
	}
	for _, b := range p.Binds {
		w.expr(b.Body, nil)
	}
	return w.found
}

// firstWrong tells what Check is to tell.
func firstWrong(p api.Program) (api.Errno, int) {
	if e, at := data.Check(p.Datas); e != api.OK {
		return e, at
	}
	if l := faults(p); len(l) > 0 {
		return api.ErrScope, l[0].at
	}
	return api.OK, 0
}

func (w *plain) put(is bool, what string, at int) {
	if is {
		w.found = append(w.found, fault{what, at})
	}
}

// expr lists what is wrong in e, where those names are bound around it.
func (w *plain) expr(e api.Expr, around []string) {
	w.put(e.Kind == api.EVar && !slices.Contains(around, e.Name) && !slices.Contains(w.names, e.Name), "EVar", e.At)
	w.put(e.Kind == api.ECon && w.args(e.Name) < 0, "ECon", e.At)
	for i, kid := range e.Kids {
		if e.Kind == api.ELam || e.Kind == api.ELet && i == 1 {
			w.expr(kid, slices.Concat(around, []string{e.Name}))
		} else {
			w.expr(kid, around)
		}
	}
	for i, a := range e.Alts {
		w.put(w.args(a.Con) < 0, "Alt without a Con", a.At)
		w.put(w.args(a.Con) >= 0 && w.args(a.Con) != len(a.Names), "number of Names", a.At)
		w.put(twice(a.Names), "two Names", a.At)
		w.put(slices.ContainsFunc(e.Alts[:i], func(b api.Alt) bool { return b.Con == a.Con }), "Con twice", a.At)
		w.expr(a.Body, slices.Concat(around, a.Names))
	}
}

// args tells how many Args the Con of that name has: -1, if there is none.
func (w *plain) args(name string) int {
	d, c := data.Con(w.datas, name)
	if d < 0 {
		return -1
	}
	return len(w.datas[d].Cons[c].Args)
}

func twice(l []string) bool {
	l = slices.Sorted(slices.Values(l))
	return len(slices.Compact(l)) < len(l)
}

// said tells whether the chapter says what is wrong in p: of an ELam, an ECase with some Kids it does not say which one
// is the body, the Kid; and of no other kind than an ECase that it has Alts.
func said(p api.Program) bool {
	ok := true
	var look func(e api.Expr)
	look = func(e api.Expr) {
		ok = ok && (e.Kind != api.ELam && e.Kind != api.ECase || len(e.Kids) <= 1)
		ok = ok && (e.Kind == api.ECase || len(e.Alts) == 0)
		for _, kid := range e.Kids {
			look(kid)
		}
		for _, a := range e.Alts {
			look(a.Body)
		}
	}
	for _, b := range p.Binds {
		look(b.Body)
	}
	return ok
}

// checkPlain checks that Check tells what the chapter says of p, whatever numbers the places have.
func checkPlain(t *testing.T, p api.Program) {
	t.Helper()
	eachPlaces(p, func() {
		e, at := firstWrong(p)
		checkAnswer(t, p, e, at)
	})
	e, at := firstWrong(p)
	checkOnce(t, p, e, at)
}

// checkEnds checks that Check ends, with an answer that may be, twice the same.
func checkEnds(t *testing.T, p api.Program) {
	t.Helper()
	e, at := Check(p)
	if e != api.OK && e != api.ErrData && e != api.ErrScope || e == api.OK && at != 0 {
		t.Errorf("%s: %d at %d", told(p), e, at)
	}
	checkOnce(t, p, e, at)
}
