package parse

import (
	"slices"

	"warp/api"
)

// begins tells of each token with which an expression begins the kind of that expression: of a bracket ETuple, though
// there may be one part alone in it. An EApp begins as its function does.
func begins() map[sort]int {
	return map[sort]int{
		some(api.TName): api.EVar,
		some(api.TCon):  api.ECon,
		some(api.TInt):  api.EInt,
		word("true"):    api.EBool,
		word("false"):   api.EBool,
		sign(`\`):       api.ELam,
		word("let"):     api.ELet,
		sign("("):       api.ETuple,
		word("if"):      api.EIf,
		word("case"):    api.ECase,
	}
}

// expr reads an expression.
func (r *reader) expr() api.Expr {
	switch r.begins[r.next()] {
	case api.ELam:
		return r.lam()
	case api.ELet:
		return r.let()
	case api.EIf:
		return r.choice()
	case api.ECase:
		return r.cases()
	}
	return r.app()
}

// lam reads a function.
func (r *reader) lam() api.Expr {
	at := r.take(sign(`\`)).At
	first := r.take(some(api.TName)).S
	more := r.names()
	r.take(sign(arrow))
	return lams(at, append([]string{first}, more...), r.expr())
}

// lams tells the functions of those names, one in another, around body.
func lams(at int, names []string, body api.Expr) api.Expr {
	for _, name := range slices.Backward(names) {
		body = api.Expr{Kind: api.ELam, At: at, Name: name, Kids: []api.Expr{body}}
	}
	return body
}

// let reads a let within an expression.
func (r *reader) let() api.Expr {
	at := r.take(word("let")).At
	b := r.bind()
	r.take(word("in"))
	return api.Expr{Kind: api.ELet, At: at, Name: b.Name, Kids: []api.Expr{b.Body, r.expr()}}
}

// choice reads an if.
func (r *reader) choice() api.Expr {
	at := r.take(word("if")).At
	is := r.expr()
	r.take(word("then"))
	then := r.expr()
	r.take(word("else"))
	return api.Expr{Kind: api.EIf, At: at, Kids: []api.Expr{is, then, r.expr()}}
}

// cases reads a case.
func (r *reader) cases() api.Expr {
	at := r.take(word("case")).At
	of := r.expr()
	r.take(word("of"))
	r.take(sign("{"))
	alts := row(r, ";", many, r.alt)
	r.take(sign("}"))
	return api.Expr{Kind: api.ECase, At: at, Kids: []api.Expr{of}, Alts: alts}
}

// alt reads an alt of a case.
func (r *reader) alt() api.Alt {
	con := r.take(some(api.TCon))
	names := r.names()
	r.take(sign(arrow))
	return api.Alt{At: con.At, Con: con.S, Names: names, Body: r.expr()}
}

// app reads an atom and what it is applied to.
func (r *reader) app() api.Expr {
	e := r.atom()
	for r.seesAtom() {
		e = api.Expr{Kind: api.EApp, At: e.At, Kids: []api.Expr{e, r.atom()}}
	}
	return e
}

// seesAtom tells whether an atom may stand next.
func (r *reader) seesAtom() bool {
	switch r.begins[r.next()] {
	case api.EVar, api.ECon, api.EInt, api.EBool, api.ETuple:
		return true
	}
	return false
}

// atom reads an expression that needs no brackets.
func (r *reader) atom() api.Expr {
	s := r.next()
	switch kind := r.begins[s]; kind {
	case api.EVar, api.ECon, api.EInt, api.EBool:
		return leaf(kind, r.take(s))
	case api.ETuple:
		return r.tuple()
	}
	r.stop()
	return api.Expr{}
}

// leaf tells the expression of that kind that t alone is.
func leaf(kind int, t api.Tok) api.Expr {
	e := api.Expr{Kind: kind, At: t.At}
	switch {
	case kind != api.EBool:
		e.Name, e.N = t.S, t.N
	case t.S == "true":
		e.N = 1
	}
	return e
}

// tuple reads a bracket: those around one part are gone behind that.
func (r *reader) tuple() api.Expr {
	parts, at := bracket(r, r.expr)
	if len(parts) == 1 {
		return parts[0]
	}
	return api.Expr{Kind: api.ETuple, At: at, Kids: parts}
}
