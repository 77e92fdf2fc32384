package show

import (
	"fmt"
	"slices"
	"strconv"
	"strings"
	"testing"

	"warp/api"
	"warp/parse"
	"warp/progs"
)

// said tells a text so that it can be read, cut where it is long.
func said(s string) string {
	return fmt.Sprintf("%q of %d bytes", s[:min(len(s), 300)], len(s))
}

// Expressions, types, and programs, without places.

// node tells an expression of that kind.
func node(kind int, name string, kids ...api.Expr) api.Expr {
	return api.Expr{Kind: kind, Name: name, Kids: kids}
}

func named(name string) api.Expr { return node(api.EVar, name) }
func number(n int) api.Expr      { return api.Expr{Kind: api.EInt, N: n} }

// choose tells a case of e with those alts.
func choose(e api.Expr, alts ...api.Alt) api.Expr {
	return api.Expr{Kind: api.ECase, Kids: []api.Expr{e}, Alts: alts}
}

func alt(con, names string, body api.Expr) api.Alt {
	return api.Alt{Con: con, Names: strings.Fields(names), Body: body}
}

// variable tells the variable of types that has that number.
func variable(n int) api.Type { return api.Type{Kind: api.YVar, N: n} }

// unknown tells a variable of types that is not in Vars.
func unknown(name string) api.Type { return api.Type{Kind: api.YVar, N: -1, Name: name} }

func typ(name string, kids ...api.Type) api.Type {
	return api.Type{Kind: api.YCon, Name: name, Kids: kids}
}

// bound tells a program of one Bind.
func bound(e api.Expr) api.Program {
	return api.Program{Binds: []api.Bind{{Name: "f", Body: e}}}
}

// declared tells a program of one Data, with those variables, and one Con that has those types.
func declared(vars string, l ...api.Type) api.Program {
	return api.Program{Datas: []api.Data{{Name: "D", Vars: strings.Fields(vars), Cons: []api.Con{{Name: "C",
		Args: l}}}}}
}

// parsed tells what src says, without places.
func parsed(t *testing.T, src string) api.Program {
	t.Helper()
	p, e, at := parse.Parse(src)
	if e != api.OK {
		t.Fatalf("%s: error %d at %d", said(src), e, at)
	}
	for _, at := range progs.Places(p) {
		*at = 0
	}
	return p
}

// expression tells that one that src is, without places.
func expression(t *testing.T, src string) api.Expr {
	t.Helper()
	return parsed(t, "let f = "+src+";").Binds[0].Body
}

// checkMay checks that p may be, whatever its places are.
func checkMay(t *testing.T, p api.Program) {
	t.Helper()
	was := progs.Told(p)
	if !May(p) {
		t.Errorf("may not be: %s", said(was))
	}
	if s := Program(p); s == "" && was != "" {
		t.Errorf("no text of %s", said(was))
	}
	if progs.Told(p) != was {
		t.Errorf("now another: %s", said(was))
	}
}

// checkMayNot checks that p may not be.
func checkMayNot(t *testing.T, p api.Program) {
	t.Helper()
	was := progs.Told(p)
	if May(p) || Program(p) != "" {
		t.Errorf("may be: %s", said(was))
	}
	if progs.Told(p) != was {
		t.Errorf("now another: %s", said(was))
	}
}

// checkIf checks that p may be if it is so, and may not if not.
func checkIf(t *testing.T, may bool, p api.Program) {
	t.Helper()
	if may {
		checkMay(t, p)
	} else {
		checkMayNot(t, p)
	}
}

// checkExpr checks the text of e, alone and in a program, and that a program with that text has e.
func checkExpr(t *testing.T, e api.Expr, want string) {
	t.Helper()
	if s := Expr(e); s != want {
		t.Errorf("%s, want %s", said(s), said(want))
	}
	checkText(t, bound(e), "let f = "+want+";\n")
}

// checkTypes checks the text of those types in a program.
func checkTypes(t *testing.T, want string, l ...api.Type) {
	t.Helper()
	checkText(t, declared("a b", l...), "data D a b = C"+want+";\n")
}

// checkText checks that p may be, and the text of p, and that what it says is p.
func checkText(t *testing.T, p api.Program, want string) {
	t.Helper()
	checkMay(t, p)
	if s := Program(p); s != want {
		t.Errorf("%s, want %s", said(s), said(want))
	}
	if told := progs.Bare(parsed(t, want)); told != progs.Bare(p) {
		t.Errorf("%s says %s", said(want), said(told))
	}
}

// plain writes programs so that nothing hangs on what stands where: each expression and each type in brackets. Of what
// may not be it writes anything.
type plain struct {
	strings.Builder
	vars []string
}

func (w *plain) put(l ...string) { w.WriteString(strings.Join(l, " ") + " ") }

func (w *plain) expr(e api.Expr) {
	texts := map[int][]string{api.ELam: {`\ ` + e.Name + " ->"}, api.ELet: {"let " + e.Name + " =", "in"},
		api.ETuple: slices.Repeat([]string{","}, len(e.Kids)), api.EIf: {"if", "then", "else"}, api.ECase: {"case"}}
	w.put("(")
	switch e.Kind {
	case api.EInt:
		w.put(strconv.Itoa(e.N))
	case api.EBool:
		w.put(strconv.FormatBool(e.N == 1))
	case api.EVar, api.ECon:
		w.put(e.Name)
	}
	for i, kid := range e.Kids {
		if l := texts[e.Kind]; i < len(l) && (i > 0 || l[i] != ",") {
			w.put(l[i])
		}
		w.expr(kid)
	}
	ahead := "of {"
	for _, a := range e.Alts {
		w.put(ahead, a.Con, strings.Join(a.Names, " "), "->")
		w.expr(a.Body)
		ahead = ";"
	}
	w.put(map[bool]string{true: "} )", false: ")"}[e.Kind == api.ECase])
}

func (w *plain) typ(t api.Type) {
	w.put("(")
	for i, kid := range t.Kids {
		if i > 0 && (t.Name == "->" || t.Name == ",") {
			w.put(t.Name)
		} else if i == 0 && t.Name != "->" && t.Name != "," {
			w.put(t.Name)
		}
		w.typ(kid)
	}
	if t.Kind == api.YVar && t.N >= 0 && t.N < len(w.vars) {
		w.put(w.vars[t.N])
	} else if len(t.Kids) == 0 {
		w.put(t.Name)
	}
	w.put(")")
}

func (w *plain) program(p api.Program) string {
	for _, d := range p.Datas {
		w.vars = d.Vars
		w.put("data", d.Name, strings.Join(d.Vars, " "))
		ahead := "="
		for _, c := range d.Cons {
			w.put(ahead, c.Name)
			for _, arg := range c.Args {
				w.typ(arg)
			}
			ahead = "|"
		}
		w.put(";")
	}
	for _, b := range p.Binds {
		w.put("let", b.Name, "=")
		w.expr(b.Body)
		w.put(";")
	}
	return w.String()
}

// sayable tells whether there is a text that says p, but for places. (All that Parse tells may be.)
func sayable(p api.Program) bool {
	q, e, _ := parse.Parse((&plain{}).program(p))
	return e == api.OK && progs.Bare(q) == progs.Bare(p)
}
