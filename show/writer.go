package show

import (
	"strconv"
	"strings"

	"warp/api"
)

// writer writes what may be as text.
type writer struct {
	shapes
	strings.Builder
	vars []string // those of the data that is written
}

func (w *writer) put(l ...string) {
	for _, s := range l {
		w.WriteString(s)
	}
}

// names writes those names, each behind a blank.
func (w *writer) names(l []string) {
	for _, name := range l {
		w.put(" ", name)
	}
}

// row writes each of l by one, and that text between.
func row[T any](w *writer, l []T, between string, one func(T)) {
	for i, x := range l {
		if i > 0 {
			w.put(between)
		}
		one(x)
	}
}

// held writes what is so tight where so much is asked: in brackets, if it is less.
func (w *writer) held(is, asked int, write func()) {
	if is >= asked {
		write()
		return
	}
	w.put("(")
	write()
	w.put(")")
}

func (w *writer) program(p api.Program) {
	for _, d := range p.Datas {
		w.data(d)
	}
	for _, b := range p.Binds {
		w.put("let ", b.Name, " = ")
		w.looseExpr(b.Body)
		w.put(";\n")
	}
}

func (w *writer) data(d api.Data) {
	w.vars = d.Vars
	w.put("data ", d.Name)
	w.names(d.Vars)
	w.put(" = ")
	row(w, d.Cons, " | ", w.con)
	w.put(";\n")
}

func (w *writer) con(c api.Con) {
	w.put(c.Name)
	w.atomTypes(c.Args)
}

// atomTypes writes those types as atoms, each behind a blank.
func (w *writer) atomTypes(l []api.Type) {
	for _, t := range l {
		w.put(" ")
		w.typ(t, tight)
	}
}

func (w *writer) looseType(t api.Type) { w.typ(t, loose) }

// typ writes a type where it is asked to be so tight.
func (w *writer) typ(t api.Type, asked int) {
	named, _ := sortOf(t)
	w.held(w.types[named].howTight(len(t.Kids)), asked, func() { w.openType(t) })
}

// openType writes a type without brackets around it.
func (w *writer) openType(t api.Type) {
	switch {
	case t.Kind == api.YVar && t.N >= 0:
		w.put(w.vars[t.N])
	case t.Name == arrow:
		w.typ(t.Kids[0], joined)
		w.put(" -> ")
		w.looseType(t.Kids[1])
	case t.Name == comma:
		w.put("(")
		row(w, t.Kids, ", ", w.looseType)
		w.put(")")
	default:
		w.put(t.Name)
		w.atomTypes(t.Kids)
	}
}

func (w *writer) looseExpr(e api.Expr) { w.expr(e, loose) }

// expr writes an expression where it is asked to be so tight.
func (w *writer) expr(e api.Expr, asked int) {
	is := w.exprs[sort{kind: e.Kind}].howTight(len(e.Kids))
	w.held(is, asked, func() { w.openExpr(e) })
}

// openExpr writes an expression without brackets around it.
func (w *writer) openExpr(e api.Expr) {
	switch e.Kind {
	case api.EInt:
		w.put(strconv.Itoa(e.N))
	case api.EBool:
		w.put(strconv.FormatBool(e.N == 1))
	case api.EApp:
		w.expr(e.Kids[0], joined)
		w.put(" ")
		w.expr(e.Kids[1], tight)
	case api.ELam:
		w.put(`\`, e.Name, " -> ")
		w.looseExpr(e.Kids[0])
	case api.ELet:
		w.put("let ", e.Name)
		w.parts([]string{" = ", " in "}, e.Kids)
	case api.ETuple:
		w.put("(")
		row(w, e.Kids, ", ", w.looseExpr)
		w.put(")")
	case api.EIf:
		w.parts([]string{"if ", " then ", " else "}, e.Kids)
	case api.ECase:
		w.parts([]string{"case "}, e.Kids)
		w.put(" of {")
		row(w, e.Alts, "; ", w.alt)
		w.put("}")
	default:
		w.put(e.Name)
	}
}

// parts writes those expressions, each behind the text of its place.
func (w *writer) parts(ahead []string, l []api.Expr) {
	for i, e := range l {
		w.put(ahead[i])
		w.looseExpr(e)
	}
}

func (w *writer) alt(a api.Alt) {
	w.put(a.Con)
	w.names(a.Names)
	w.put(" -> ")
	w.looseExpr(a.Body)
}
