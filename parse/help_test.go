package parse

import (
	"fmt"
	"strings"
	"testing"

	"warp/api"
	"warp/progs"
)

// said tells a text so that it can be read, cut where it is long.
func said(s string) string {
	return fmt.Sprintf("%q of %d bytes", s[:min(len(s), 300)], len(s))
}

// Expressions, each at its place.

func evar(at int, name string) api.Expr { return api.Expr{Kind: api.EVar, At: at, Name: name} }
func econ(at int, name string) api.Expr { return api.Expr{Kind: api.ECon, At: at, Name: name} }
func eint(at, n int) api.Expr           { return api.Expr{Kind: api.EInt, At: at, N: n} }
func ebool(at, n int) api.Expr          { return api.Expr{Kind: api.EBool, At: at, N: n} }

func etuple(at int, l ...api.Expr) api.Expr { return api.Expr{Kind: api.ETuple, At: at, Kids: l} }
func eif(at int, l ...api.Expr) api.Expr    { return api.Expr{Kind: api.EIf, At: at, Kids: l} }

func eapp(at int, f, a api.Expr) api.Expr {
	return api.Expr{Kind: api.EApp, At: at, Kids: []api.Expr{f, a}}
}

func elam(at int, name string, body api.Expr) api.Expr {
	return api.Expr{Kind: api.ELam, At: at, Name: name, Kids: []api.Expr{body}}
}

func elet(at int, name string, is, in api.Expr) api.Expr {
	return api.Expr{Kind: api.ELet, At: at, Name: name, Kids: []api.Expr{is, in}}
}

func ecase(at int, of api.Expr, alts ...api.Alt) api.Expr {
	return api.Expr{Kind: api.ECase, At: at, Kids: []api.Expr{of}, Alts: alts}
}

func alt(at int, con, names string, body api.Expr) api.Alt {
	return api.Alt{At: at, Con: con, Names: strings.Fields(names), Body: body}
}

// Types, and what is declared.

func yvar(n int) api.Type        { return api.Type{Kind: api.YVar, N: n} }
func ynone(name string) api.Type { return api.Type{Kind: api.YVar, N: -1, Name: name} }

func ycon(name string, kids ...api.Type) api.Type {
	return api.Type{Kind: api.YCon, Name: name, Kids: kids}
}

func con(at int, name string, args ...api.Type) api.Con {
	return api.Con{Name: name, At: at, Args: args}
}

func data(at int, name, vars string, cons ...api.Con) api.Data {
	return api.Data{Name: name, At: at, Vars: strings.Fields(vars), Cons: cons}
}

func bind(at int, name string, body api.Expr) api.Bind {
	return api.Bind{Name: name, At: at, Body: body}
}

func datas(l ...api.Data) api.Program { return api.Program{Datas: l} }
func binds(l ...api.Bind) api.Program { return api.Program{Binds: l} }

// checkToken checks that nothing can go on at that place.
func checkToken(t *testing.T, src string, want int) {
	t.Helper()
	checkWrong(t, src, api.ErrParse, want)
}

// checkWrong checks that src has that error there, and nothing else is told.
func checkWrong(t *testing.T, src string, wantE api.Errno, want int) {
	t.Helper()
	p, e, at := Parse(src)
	if e != wantE || at != want {
		t.Errorf("%s: error %d at %d, want %d at %d", said(src), e, at, wantE, want)
	}
	if len(p.Datas)+len(p.Binds) > 0 {
		t.Errorf("%s: beside error %d a program is told", said(src), e)
	}
}

// check checks that src says that program.
func check(t *testing.T, src string, want api.Program) {
	t.Helper()
	p, e, at := Parse(src)
	if e != api.OK || at != 0 {
		t.Errorf("%s: error %d at %d", said(src), e, at)
	} else if got := progs.Told(p); got != progs.Told(want) {
		t.Errorf("%s:\ngot  %s\nwant %s", said(src), said(got), said(progs.Told(want)))
	}
}

// checkMay checks that src says some program, and tells it.
func checkMay(t *testing.T, src string) api.Program {
	t.Helper()
	p, e, at := Parse(src)
	if e != api.OK || at != 0 {
		t.Errorf("%s: error %d at %d", said(src), e, at)
	}
	return p
}

// ahead is what stands ahead of an expression that checkExpr checks.
const ahead = "let q = "

// checkExpr checks that src, behind ahead, says that expression.
func checkExpr(t *testing.T, src string, want api.Expr) {
	t.Helper()
	check(t, ahead+src+";", binds(bind(4, "q", want)))
}

// checkTypes checks that src, behind `data D a b = C `, says those types.
func checkTypes(t *testing.T, src string, want ...api.Type) {
	t.Helper()
	check(t, "data D a b = C "+src+";", datas(data(5, "D", "a b", con(13, "C", want...))))
}
