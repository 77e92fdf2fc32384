package parse

import (
	"slices"
	"strconv"
	"strings"
	"testing"

	"warp/api"
	"warp/plays"
	"warp/progs"
)

// writer writes programs as text: what may be one way or the other it draws. What it tells again has its places.
type writer struct {
	strings.Builder
	next  func(int) int
	extra int // of so many drawn, one more bracket around what needs none: 0, if there is none
}

// put writes a token, behind what may be ahead of it, and tells where it stands.
func (w *writer) put(s string) int {
	switch w.next(6) {
	case 0:
		w.WriteString([]string{"\n", "\t", "  ", "--\n", " -- let x = (\n", "\n--?\n--\n"}[w.next(6)])
	case 1, 2:
		if old := w.String(); old != "" && strings.ContainsAny(old[len(old)-1:]+s[:1], `\=;|(),{}>-`) {
			break
		}
		fallthrough
	default:
		w.WriteString(" ")
	}
	at := w.Len()
	w.WriteString(s)
	return at
}

// names writes those names.
func (w *writer) names(l []string) {
	for _, name := range l {
		w.put(name)
	}
}

// bracketed tells whether there is to be a bracket more.
func (w *writer) bracketed() bool { return w.extra > 0 && w.next(w.extra) == 0 }

func (w *writer) program(p api.Program) api.Program {
	var all api.Program
	for len(p.Datas)+len(p.Binds) > 0 {
		if len(p.Binds) == 0 || len(p.Datas) > 0 && w.next(2) == 0 {
			all.Datas = append(all.Datas, w.data(p.Datas[0]))
			p.Datas = p.Datas[1:]
		} else {
			w.put("let")
			all.Binds = append(all.Binds, w.bind(p.Binds[0]))
			w.put(";")
			p.Binds = p.Binds[1:]
		}
	}
	if w.next(2) == 0 {
		w.WriteString([]string{" ", "\n", "--", " --\n", "\n-- x"}[w.next(5)])
	}
	return all
}

func (w *writer) data(d api.Data) api.Data {
	w.put("data")
	d.At = w.put(d.Name)
	w.names(d.Vars)
	between := "="
	d.Cons = slices.Clone(d.Cons)
	for i, c := range d.Cons {
		w.put(between)
		d.Cons[i].At = w.put(c.Name)
		for _, arg := range c.Args {
			w.atomType(arg, d.Vars)
		}
		between = "|"
	}
	w.put(";")
	return d
}

// parts writes a bracket of n parts.
func (w *writer) parts(n int, part func(i int)) int {
	at := w.put("(")
	for i := range n {
		if i > 0 {
			w.put(",")
		}
		part(i)
	}
	w.put(")")
	return at
}

func (w *writer) atomType(t api.Type, vars []string) {
	switch {
	case w.bracketed():
		w.parts(1, func(int) { w.typ(t, vars) })
	case t.Kind == api.YVar && t.N >= 0:
		w.put(vars[t.N])
	case t.Kind == api.YVar || len(t.Kids) == 0:
		w.put(t.Name)
	case t.Name == ",":
		w.parts(len(t.Kids), func(i int) { w.typ(t.Kids[i], vars) })
	default:
		w.parts(1, func(int) { w.typ(t, vars) })
	}
}

// leftType writes a type that stands to the left of an arrow.
func (w *writer) leftType(t api.Type, vars []string) {
	if t.Kind == api.YVar || t.Name == "," || t.Name == "->" || w.bracketed() {
		w.atomType(t, vars)
		return
	}
	w.put(t.Name)
	for _, kid := range t.Kids {
		w.atomType(kid, vars)
	}
}

func (w *writer) typ(t api.Type, vars []string) {
	if t.Name != "->" || w.bracketed() {
		w.leftType(t, vars)
		return
	}
	w.leftType(t.Kids[0], vars)
	w.put("->")
	w.typ(t.Kids[1], vars)
}

// bind writes a name and what it is: the names of ELams stand ahead of `=` or behind it.
func (w *writer) bind(b api.Bind) api.Bind {
	b.At = w.put(b.Name)
	b.Body = w.lams(b.At, b.Body, "=")
	return b
}

// lams writes the names of some ELams, that sign, and what is in them.
func (w *writer) lams(at int, e api.Expr, behind string) api.Expr {
	if e.Kind == api.ELam && w.next(3) > 0 {
		w.put(e.Name)
		return elam(at, e.Name, w.lams(at, e.Kids[0], behind))
	}
	w.put(behind)
	return w.expr(e)
}

func (w *writer) expr(e api.Expr) api.Expr {
	if w.bracketed() {
		return w.atom(e)
	}
	switch e.Kind {
	case api.ELam:
		at := w.put(`\`)
		w.put(e.Name)
		return elam(at, e.Name, w.lams(at, e.Kids[0], "->"))
	case api.ELet:
		at := w.put("let")
		b := w.bind(api.Bind{Name: e.Name, Body: e.Kids[0]})
		w.put("in")
		return elet(at, e.Name, b.Body, w.expr(e.Kids[1]))
	case api.EIf:
		at, l := 0, slices.Clone(e.Kids)
		for i, s := range []string{"if", "then", "else"} {
			where := w.put(s)
			if i == 0 {
				at = where
			}
			l[i] = w.expr(l[i])
		}
		return eif(at, l...)
	case api.ECase:
		return w.cases(e)
	}
	return w.app(e)
}

func (w *writer) cases(e api.Expr) api.Expr {
	at := w.put("case")
	of := w.expr(e.Kids[0])
	w.put("of")
	alts, between := slices.Clone(e.Alts), "{"
	for i, a := range alts {
		w.put(between)
		alts[i].At = w.put(a.Con)
		w.names(a.Names)
		w.put("->")
		alts[i].Body = w.expr(a.Body)
		between = ";"
	}
	w.put("}")
	return ecase(at, of, alts...)
}

func (w *writer) app(e api.Expr) api.Expr {
	if e.Kind != api.EApp || w.bracketed() {
		return w.atom(e)
	}
	f := w.app(e.Kids[0])
	return eapp(f.At, f, w.atom(e.Kids[1]))
}

func (w *writer) atom(e api.Expr) api.Expr {
	switch {
	case w.bracketed():
	case e.Kind == api.EVar || e.Kind == api.ECon:
		e.At = w.put(e.Name)
		return e
	case e.Kind == api.EInt:
		e.At = w.put(strconv.Itoa(e.N))
		return e
	case e.Kind == api.EBool:
		e.At = w.put([]string{"false", "true"}[e.N])
		return e
	case e.Kind == api.ETuple:
		e.Kids = slices.Clone(e.Kids)
		e.At = w.parts(len(e.Kids), func(i int) { e.Kids[i] = w.expr(e.Kids[i]) })
		return e
	}
	w.parts(1, func(int) { e = w.expr(e) })
	return e
}

// written tells a program as a text, and the program with the places that it has there.
func written(p api.Program, next func(int) int, extra int) (string, api.Program) {
	w := &writer{next: next, extra: extra}
	p = w.program(p)
	return w.String(), p
}

// TestDrawnPrograms holds what Parse tells of drawn programs against what was written, places too (10.1, 10.3, 10.5).
func TestDrawnPrograms(t *testing.T) {
	next := plays.Below(103)
	for i := range 2500 {
		p := progs.Drawn(next)
		for _, extra := range []int{0, 6, 2} {
			src, want := written(p, next, extra)
			check(t, src, want)
			if progs.Bare(want) != progs.Bare(p) {
				t.Fatalf("the test itself is wrong: %s", said(src))
			}
		}
		if t.Failed() {
			t.Fatalf("program %d", i)
		}
	}
}

// TestDrawnProgramsCutShort holds texts that end too soon, or go on wrongly, against the grammar.
func TestDrawnProgramsCutShort(t *testing.T) {
	next := plays.Below(104)
	for range 300 {
		src, _ := written(progs.Drawn(next), next, 5)
		if progs.Told(checkMay(t, src)) == "" {
			continue
		}
		// Behind the last `;` nothing can stand but `let` and `data`; ahead of it the text is no program.
		cut := strings.LastIndex(src[:lastToken(src)+1], ";")
		checkToken(t, src[:cut], cut)
		checkToken(t, src[:cut]+"\n --", cut+4)
		for _, s := range []string{"in", ";", ")", "x", "C", "7", "}", "then"} {
			checkToken(t, src[:cut+1]+s+src[cut+1:], cut+1)
			checkToken(t, src[:cut+1]+"\n"+s+src, cut+2)
		}
	}
}

// lastToken tells where the last token begins of a text that ends in `;`, but for blanks and remarks.
func lastToken(src string) int {
	at, last := 0, 0
	for _, line := range strings.SplitAfter(src, "\n") {
		code, _, _ := strings.Cut(line, "--")
		if i := strings.LastIndex(code, ";"); i >= 0 {
			last = at + i
		}
		at += len(line)
	}
	return last
}
