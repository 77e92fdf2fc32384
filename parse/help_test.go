package parse

import (
	"fmt"
	"strconv"
	"strings"
	"testing"

	"warp/api"
)

// said tells a text so that it can be read, cut where it is long.
func said(s string) string {
	return fmt.Sprintf("%q of %d bytes", s[:min(len(s), 300)], len(s))
}

// Expressions, each at its place.

func evar(at int, name string) api.Expr { return api.Expr{Kind: api.EVar, At: at, Name: name} }
func econ(at int, name string) api.Expr { return api.Expr{Kind: api.ECon, At: at, Name: name} }
func eint(at, n int) api.Expr           { return api.Expr{Kind: api.EInt, At: at, N: n} }
func ebool(at, n int) api.Expr          { return api.Expr{Kind: api.EBool, At: at, N: n} }

func etuple(at int, l ...api.Expr) api.Expr { return api.Expr{Kind: api.ETuple, At: at, Kids: l} }
func eif(at int, l ...api.Expr) api.Expr    { return api.Expr{Kind: api.EIf, At: at, Kids: l} }

func eapp(at int, f, a api.Expr) api.Expr {
	return api.Expr{Kind: api.EApp, At: at, Kids: []api.Expr{f, a}}
}

func elam(at int, name string, body api.Expr) api.Expr {
	return api.Expr{Kind: api.ELam, At: at, Name: name, Kids: []api.Expr{body}}
}

func elet(at int, name string, is, in api.Expr) api.Expr {
	return api.Expr{Kind: api.ELet, At: at, Name: name, Kids: []api.Expr{is, in}}
}

func ecase(at int, of api.Expr, alts ...api.Alt) api.Expr {
	return api.Expr{Kind: api.ECase, At: at, Kids: []api.Expr{of}, Alts: alts}
}

func alt(at int, con, names string, body api.Expr) api.Alt {
	return api.Alt{At: at, Con: con, Names: strings.Fields(names), Body: body}
}

// Types, and what is declared.

func yvar(n int) api.Type        { return api.Type{Kind: api.YVar, N: n} }
func ynone(name string) api.Type { return api.Type{Kind: api.YVar, N: -1, Name: name} }

func ycon(name string, kids ...api.Type) api.Type {
	return api.Type{Kind: api.YCon, Name: name, Kids: kids}
}

func con(at int, name string, args ...api.Type) api.Con {
	return api.Con{Name: name, At: at, Args: args}
}

func data(at int, name, vars string, cons ...api.Con) api.Data {
	return api.Data{Name: name, At: at, Vars: strings.Fields(vars), Cons: cons}
}

func bind(at int, name string, body api.Expr) api.Bind {
	return api.Bind{Name: name, At: at, Body: body}
}

func datas(l ...api.Data) api.Program { return api.Program{Datas: l} }
func binds(l ...api.Bind) api.Program { return api.Program{Binds: l} }

// teller tells programs with all that is in them as text, the places too if it is so. A nil list is an empty one.
type teller struct {
	strings.Builder
	places bool
}

// open writes the front of what is told: what it is, its place, and what else it has of its own.
func (w *teller) open(what, name string, at int, more ...string) {
	if !w.places {
		at = 0
	}
	fmt.Fprintf(w, "%s %s @%d %q[", what, name, at, more)
}

func (w *teller) close() { w.WriteString("]") }

func (w *teller) expr(e api.Expr) {
	w.open(fmt.Sprint("e", e.Kind), e.Name, e.At, strconv.Itoa(e.N))
	for _, kid := range e.Kids {
		w.expr(kid)
	}
	for _, a := range e.Alts {
		w.open("alt", a.Con, a.At, a.Names...)
		w.expr(a.Body)
		w.close()
	}
	w.close()
}

func (w *teller) typ(t api.Type) {
	w.open(fmt.Sprint("y", t.Kind), t.Name, 0, strconv.Itoa(t.N))
	for _, kid := range t.Kids {
		w.typ(kid)
	}
	w.close()
}

func (w *teller) data(d api.Data) {
	w.open("data", d.Name, d.At, d.Vars...)
	for _, c := range d.Cons {
		w.open("con", c.Name, c.At)
		for _, arg := range c.Args {
			w.typ(arg)
		}
		w.close()
	}
	w.close()
}

func (w *teller) bind(b api.Bind) {
	w.open("bind", b.Name, b.At)
	w.expr(b.Body)
	w.close()
}

func (w *teller) program(p api.Program) string {
	for _, d := range p.Datas {
		w.data(d)
	}
	for _, b := range p.Binds {
		w.bind(b)
	}
	return w.String()
}

// told and bare tell all of a program, with places and without them.
func told(p api.Program) string { return (&teller{places: true}).program(p) }
func bare(p api.Program) string { return (&teller{}).program(p) }

// checkToken checks that nothing can go on at that place.
func checkToken(t *testing.T, src string, want int) {
	t.Helper()
	checkWrong(t, src, api.ErrParse, want)
}

// checkWrong checks that src has that error there, and nothing else is told.
func checkWrong(t *testing.T, src string, wantE api.Errno, want int) {
	t.Helper()
	p, e, at := Parse(src)
	if e != wantE || at != want {
		t.Errorf("%s: error %d at %d, want %d at %d", said(src), e, at, wantE, want)
	}
	if len(p.Datas)+len(p.Binds) > 0 {
		t.Errorf("%s: beside error %d a program is told", said(src), e)
	}
}

// check checks that src says that program.
func check(t *testing.T, src string, want api.Program) {
	t.Helper()
	p, e, at := Parse(src)
	if e != api.OK || at != 0 {
		t.Errorf("%s: error %d at %d", said(src), e, at)
	} else if got := told(p); got != told(want) {
		t.Errorf("%s:\ngot  %s\nwant %s", said(src), said(got), said(told(want)))
	}
}

// checkMay checks that src says some program, and tells it.
func checkMay(t *testing.T, src string) api.Program {
	t.Helper()
	p, e, at := Parse(src)
	if e != api.OK || at != 0 {
		t.Errorf("%s: error %d at %d", said(src), e, at)
	}
	return p
}

// ahead is what stands ahead of an expression that checkExpr checks.
const ahead = "let q = "

// checkExpr checks that src, behind ahead, says that expression.
func checkExpr(t *testing.T, src string, want api.Expr) {
	t.Helper()
	check(t, ahead+src+";", binds(bind(4, "q", want)))
}

// checkTypes checks that src, behind `data D a b = C `, says those types.
func checkTypes(t *testing.T, src string, want ...api.Type) {
	t.Helper()
	check(t, "data D a b = C "+src+";", datas(data(5, "D", "a b", con(13, "C", want...))))
}
