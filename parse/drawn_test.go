package parse

import (
	"slices"
	"strconv"
	"strings"
	"testing"

	"warp/api"
	"warp/plays"
)

// drawer draws programs without places.
type drawer struct{ next func(int) int }

func (d drawer) name() string { return []string{"x", "y", "z", "f", "lets", "x_1"}[d.next(6)] }
func (d drawer) con() string  { return []string{"C", "D", "Nil", "Int", "Let", "X_1"}[d.next(6)] }

// names tells some names, perhaps none.
func (d drawer) names() []string {
	var l []string
	for range d.next(4) {
		l = append(l, d.name())
	}
	return l
}

// exprs tells n expressions at most so deep.
func (d drawer) exprs(n, deep int) []api.Expr {
	var l []api.Expr
	for range n {
		l = append(l, d.expr(deep))
	}
	return l
}

// expr tells an expression at most so deep.
func (d drawer) expr(deep int) api.Expr {
	if deep <= 1 || d.next(4) == 0 {
		return d.leaf()
	}
	switch kind := api.EApp + d.next(6); kind {
	case api.ELam:
		return api.Expr{Kind: kind, Name: d.name(), Kids: d.exprs(1, deep-1)}
	case api.ELet:
		return api.Expr{Kind: kind, Name: d.name(), Kids: d.exprs(2, deep-1)}
	case api.ETuple:
		return api.Expr{Kind: kind, Kids: d.exprs(2+d.next(d.next(7)+1), deep-1)}
	case api.EIf:
		return api.Expr{Kind: kind, Kids: d.exprs(3, deep-1)}
	case api.ECase:
		return api.Expr{Kind: kind, Kids: d.exprs(1, deep-1), Alts: d.alts(deep - 1)}
	}
	return api.Expr{Kind: api.EApp, Kids: d.exprs(2, deep-1)}
}

func (d drawer) leaf() api.Expr {
	switch d.next(6) {
	case 0:
		return api.Expr{Kind: api.ECon, Name: d.con()}
	case 1:
		return api.Expr{Kind: api.EInt, N: []int{0, 1, 2, 47, api.MaxInt}[d.next(5)]}
	case 2:
		return api.Expr{Kind: api.EBool, N: d.next(2)}
	}
	return api.Expr{Kind: api.EVar, Name: d.name()}
}

func (d drawer) alts(deep int) []api.Alt {
	var l []api.Alt
	for range 1 + d.next(3) {
		l = append(l, api.Alt{Con: d.con(), Names: d.names(), Body: d.expr(deep)})
	}
	return l
}

// types tells n types at most so deep, in which those variables are numbered.
func (d drawer) types(n, deep int, vars []string) []api.Type {
	var l []api.Type
	for range n {
		l = append(l, d.typ(deep, vars))
	}
	return l
}

func (d drawer) typ(deep int, vars []string) api.Type {
	switch kind := d.next(5); {
	case kind <= 1:
		name := d.name()
		if n := slices.Index(vars, name); n >= 0 {
			return yvar(n)
		}
		return ynone(name)
	case deep <= 1:
		return ycon(d.con())
	case kind == 2:
		return ycon(d.con(), d.types(d.next(4), deep-1, vars)...)
	case kind == 3:
		return ycon("->", d.types(2, deep-1, vars)...)
	}
	return ycon(",", d.types(2+d.next(d.next(7)+1), deep-1, vars)...)
}

func (d drawer) data() api.Data {
	x := api.Data{Name: d.con(), Vars: d.names()}
	for range 1 + d.next(3) {
		x.Cons = append(x.Cons, api.Con{Name: d.con(), Args: d.types(d.next(4), 1+d.next(5), x.Vars)})
	}
	return x
}

func (d drawer) program() api.Program {
	var p api.Program
	for range d.next(3) {
		p.Datas = append(p.Datas, d.data())
	}
	for range d.next(4) {
		p.Binds = append(p.Binds, api.Bind{Name: d.name(), Body: d.expr(1 + d.next(6))})
	}
	return p
}

// writer writes programs as text: what may be one way or the other it draws. What it tells again has its places.
type writer struct {
	strings.Builder
	next  func(int) int
	extra int // of so many drawn, one more bracket around what needs none: 0, if there is none
}

// put writes a token, behind what may be ahead of it, and tells where it stands.
func (w *writer) put(s string) int {
	switch w.next(6) {
	case 0:
		w.WriteString([]string{"\n", "\t", "  ", "--\n", " -- let x = (\n", "\n--?\n--\n"}[w.next(6)])
	case 1, 2:
		if old := w.String(); old != "" && strings.ContainsAny(old[len(old)-1:]+s[:1], `\=;|(),{}>-`) {
			break
		}
		fallthrough
	default:
		w.WriteString(" ")
	}
	at := w.Len()
	w.WriteString(s)
	return at
}

// names writes those names.
func (w *writer) names(l []string) {
	for _, name := range l {
		w.put(name)
	}
}

// bracketed tells whether there is to be a bracket more.
func (w *writer) bracketed() bool { return w.extra > 0 && w.next(w.extra) == 0 }

func (w *writer) program(p api.Program) api.Program {
	var all api.Program
	for len(p.Datas)+len(p.Binds) > 0 {
		if len(p.Binds) == 0 || len(p.Datas) > 0 && w.next(2) == 0 {
			all.Datas = append(all.Datas, w.data(p.Datas[0]))
			p.Datas = p.Datas[1:]
		} else {
			w.put("let")
			all.Binds = append(all.Binds, w.bind(p.Binds[0]))
			w.put(";")
			p.Binds = p.Binds[1:]
		}
	}
	if w.next(2) == 0 {
		w.WriteString([]string{" ", "\n", "--", " --\n", "\n-- x"}[w.next(5)])
	}
	return all
}

func (w *writer) data(d api.Data) api.Data {
	w.put("data")
	d.At = w.put(d.Name)
	w.names(d.Vars)
	between := "="
	d.Cons = slices.Clone(d.Cons)
	for i, c := range d.Cons {
		w.put(between)
		d.Cons[i].At = w.put(c.Name)
		for _, arg := range c.Args {
			w.atomType(arg, d.Vars)
		}
		between = "|"
	}
	w.put(";")
	return d
}

// parts writes a bracket of n parts.
func (w *writer) parts(n int, part func(i int)) int {
	at := w.put("(")
	for i := range n {
		if i > 0 {
			w.put(",")
		}
		part(i)
	}
	w.put(")")
	return at
}

func (w *writer) atomType(t api.Type, vars []string) {
	switch {
	case w.bracketed():
		w.parts(1, func(int) { w.typ(t, vars) })
	case t.Kind == api.YVar && t.N >= 0:
		w.put(vars[t.N])
	case t.Kind == api.YVar || len(t.Kids) == 0:
		w.put(t.Name)
	case t.Name == ",":
		w.parts(len(t.Kids), func(i int) { w.typ(t.Kids[i], vars) })
	default:
		w.parts(1, func(int) { w.typ(t, vars) })
	}
}

// leftType writes a type that stands to the left of an arrow.
func (w *writer) leftType(t api.Type, vars []string) {
	if t.Kind == api.YVar || t.Name == "," || t.Name == "->" || w.bracketed() {
		w.atomType(t, vars)
		return
	}
	w.put(t.Name)
	for _, kid := range t.Kids {
		w.atomType(kid, vars)
	}
}

func (w *writer) typ(t api.Type, vars []string) {
	if t.Name != "->" || w.bracketed() {
		w.leftType(t, vars)
		return
	}
	w.leftType(t.Kids[0], vars)
	w.put("->")
	w.typ(t.Kids[1], vars)
}

// bind writes a name and what it is: the names of ELams stand ahead of `=` or behind it.
func (w *writer) bind(b api.Bind) api.Bind {
	b.At = w.put(b.Name)
	b.Body = w.lams(b.At, b.Body, "=")
	return b
}

// lams writes the names of some ELams, that sign, and what is in them.
func (w *writer) lams(at int, e api.Expr, behind string) api.Expr {
	if e.Kind == api.ELam && w.next(3) > 0 {
		w.put(e.Name)
		return elam(at, e.Name, w.lams(at, e.Kids[0], behind))
	}
	w.put(behind)
	return w.expr(e)
}

func (w *writer) expr(e api.Expr) api.Expr {
	if w.bracketed() {
		return w.atom(e)
	}
	switch e.Kind {
	case api.ELam:
		at := w.put(`\`)
		w.put(e.Name)
		return elam(at, e.Name, w.lams(at, e.Kids[0], "->"))
	case api.ELet:
		at := w.put("let")
		b := w.bind(api.Bind{Name: e.Name, Body: e.Kids[0]})
		w.put("in")
		return elet(at, e.Name, b.Body, w.expr(e.Kids[1]))
	case api.EIf:
		at, l := 0, slices.Clone(e.Kids)
		for i, s := range []string{"if", "then", "else"} {
			where := w.put(s)
			if i == 0 {
				at = where
			}
			l[i] = w.expr(l[i])
		}
		return eif(at, l...)
	case api.ECase:
		return w.cases(e)
	}
	return w.app(e)
}

func (w *writer) cases(e api.Expr) api.Expr {
	at := w.put("case")
	of := w.expr(e.Kids[0])
	w.put("of")
	alts, between := slices.Clone(e.Alts), "{"
	for i, a := range alts {
		w.put(between)
		alts[i].At = w.put(a.Con)
		w.names(a.Names)
		w.put("->")
		alts[i].Body = w.expr(a.Body)
		between = ";"
	}
	w.put("}")
	return ecase(at, of, alts...)
}

func (w *writer) app(e api.Expr) api.Expr {
	if e.Kind != api.EApp || w.bracketed() {
		return w.atom(e)
	}
	f := w.app(e.Kids[0])
	return eapp(f.At, f, w.atom(e.Kids[1]))
}

func (w *writer) atom(e api.Expr) api.Expr {
	switch {
	case w.bracketed():
	case e.Kind == api.EVar || e.Kind == api.ECon:
		e.At = w.put(e.Name)
		return e
	case e.Kind == api.EInt:
		e.At = w.put(strconv.Itoa(e.N))
		return e
	case e.Kind == api.EBool:
		e.At = w.put([]string{"false", "true"}[e.N])
		return e
	case e.Kind == api.ETuple:
		e.Kids = slices.Clone(e.Kids)
		e.At = w.parts(len(e.Kids), func(i int) { e.Kids[i] = w.expr(e.Kids[i]) })
		return e
	}
	w.parts(1, func(int) { e = w.expr(e) })
	return e
}

// written tells a program as a text, and the program with the places that it has there.
func written(p api.Program, next func(int) int, extra int) (string, api.Program) {
	w := &writer{next: next, extra: extra}
	p = w.program(p)
	return w.String(), p
}

// TestDrawnPrograms holds what Parse tells of drawn programs against what was written, places too (10.1, 10.3, 10.5).
func TestDrawnPrograms(t *testing.T) {
	d := drawer{plays.Below(103)}
	for i := range 2500 {
		p := d.program()
		for _, extra := range []int{0, 6, 2} {
			src, want := written(p, d.next, extra)
			check(t, src, want)
			if bare(want) != bare(p) {
				t.Fatalf("the test itself is wrong: %s", said(src))
			}
		}
		if t.Failed() {
			t.Fatalf("program %d", i)
		}
	}
}

// TestDrawnProgramsCutShort holds texts that end too soon, or go on wrongly, against the grammar.
func TestDrawnProgramsCutShort(t *testing.T) {
	d := drawer{plays.Below(104)}
	for range 300 {
		src, _ := written(d.program(), d.next, 5)
		if told(checkMay(t, src)) == "" {
			continue
		}
		// Behind the last `;` nothing can stand but `let` and `data`; ahead of it the text is no program.
		cut := strings.LastIndex(src[:lastToken(src)+1], ";")
		checkToken(t, src[:cut], cut)
		checkToken(t, src[:cut]+"\n --", cut+4)
		for _, s := range []string{"in", ";", ")", "x", "C", "7", "}", "then"} {
			checkToken(t, src[:cut+1]+s+src[cut+1:], cut+1)
			checkToken(t, src[:cut+1]+"\n"+s+src, cut+2)
		}
	}
}

// lastToken tells where the last token begins of a text that ends in `;`, but for blanks and remarks.
func lastToken(src string) int {
	at, last := 0, 0
	for _, line := range strings.SplitAfter(src, "\n") {
		code, _, _ := strings.Cut(line, "--")
		if i := strings.LastIndex(code, ";"); i >= 0 {
			last = at + i
		}
		at += len(line)
	}
	return last
}
