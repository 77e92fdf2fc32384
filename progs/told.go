package progs

import (
	"strconv"
	"strings"

	"warp/api"
)

// teller tells programs with all that is in them as text, the places too if it is so. A nil list is an empty one.
type teller struct {
	strings.Builder
	places bool
}

// Told tells all that is in a program as text: two programs that have one text are the same.
func Told(p api.Program) string { return (&teller{places: true}).program(p) }

// Bare tells that of a program, but for its places.
func Bare(p api.Program) string { return (&teller{}).program(p) }

func (w *teller) program(p api.Program) string {
	for _, d := range p.Datas {
		w.data(d)
	}
	for _, b := range p.Binds {
		w.bind(b)
	}
	return w.String()
}

// open writes the front of what is told: what it is, its name, its place, its number, and the names that it has.
func (w *teller) open(what, name string, at, n int, more ...string) {
	w.WriteString(what + strconv.Quote(name) + strconv.Itoa(n))
	if w.places {
		w.WriteString("@" + strconv.Itoa(at))
	}
	for _, s := range more {
		w.WriteString(strconv.Quote(s))
	}
	w.WriteString("[")
}

func (w *teller) close() { w.WriteString("]") }

func (w *teller) expr(e api.Expr) {
	w.open("expr"+strconv.Itoa(e.Kind), e.Name, e.At, e.N)
	for _, kid := range e.Kids {
		w.expr(kid)
	}
	for _, a := range e.Alts {
		w.open("alt", a.Con, a.At, 0, a.Names...)
		w.expr(a.Body)
		w.close()
	}
	w.close()
}

func (w *teller) typ(t api.Type) {
	w.open("type"+strconv.Itoa(t.Kind), t.Name, 0, t.N)
	for _, kid := range t.Kids {
		w.typ(kid)
	}
	w.close()
}

func (w *teller) data(d api.Data) {
	w.open("data", d.Name, d.At, 0, d.Vars...)
	for _, c := range d.Cons {
		w.open("con", c.Name, c.At, 0)
		for _, arg := range c.Args {
			w.typ(arg)
		}
		w.close()
	}
	w.close()
}

func (w *teller) bind(b api.Bind) {
	w.open("bind", b.Name, b.At, 0)
	w.expr(b.Body)
	w.close()
}
