package progs

import "warp/api"

// Parts are all parts of a program, each where it stands: an expression, a type ahead of what is in it.
type Parts struct {
	Datas []*api.Data
	Cons  []*api.Con
	Types []*api.Type
	Binds []*api.Bind
	Exprs []*api.Expr
	Alts  []*api.Alt
}

// Of tells the parts of p. Whoever writes into one of them changes p.
func Of(p api.Program) *Parts {
	x := &Parts{}
	for i := range p.Datas {
		x.data(&p.Datas[i])
	}
	for i := range p.Binds {
		x.Binds = append(x.Binds, &p.Binds[i])
		x.expr(&p.Binds[i].Body)
	}
	return x
}

func (x *Parts) data(d *api.Data) {
	x.Datas = append(x.Datas, d)
	for i := range d.Cons {
		c := &d.Cons[i]
		x.Cons = append(x.Cons, c)
		for j := range c.Args {
			x.typ(&c.Args[j])
		}
	}
}

func (x *Parts) typ(t *api.Type) {
	x.Types = append(x.Types, t)
	for i := range t.Kids {
		x.typ(&t.Kids[i])
	}
}

func (x *Parts) expr(e *api.Expr) {
	x.Exprs = append(x.Exprs, e)
	for i := range e.Kids {
		x.expr(&e.Kids[i])
	}
	for i := range e.Alts {
		x.Alts = append(x.Alts, &e.Alts[i])
		x.expr(&e.Alts[i].Body)
	}
}

// Texts tells all texts in p, in no order that counts.
func Texts(p api.Program) []string {
	var l []string
	x := Of(p)
	for _, d := range x.Datas {
		l = append(append(l, d.Name), d.Vars...)
	}
	for _, c := range x.Cons {
		l = append(l, c.Name)
	}
	for _, t := range x.Types {
		l = append(l, t.Name)
	}
	for _, b := range x.Binds {
		l = append(l, b.Name)
	}
	for _, e := range x.Exprs {
		l = append(l, e.Name)
	}
	for _, a := range x.Alts {
		l = append(append(l, a.Con), a.Names...)
	}
	return l
}

// Places tells where all places of p stand, in no order that counts, but the same for programs that are alike.
func Places(p api.Program) []*int {
	var l []*int
	x := Of(p)
	for _, d := range x.Datas {
		l = append(l, &d.At)
	}
	for _, c := range x.Cons {
		l = append(l, &c.At)
	}
	for _, b := range x.Binds {
		l = append(l, &b.At)
	}
	for _, e := range x.Exprs {
		l = append(l, &e.At)
	}
	for _, a := range x.Alts {
		l = append(l, &a.At)
	}
	return l
}
