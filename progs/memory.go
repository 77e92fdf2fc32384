package progs

import (
	"warp/api"
	"warp/lists"
)

// memory is all lists of some programs.
type memory struct {
	datas [][]api.Data
	cons  [][]api.Con
	types [][]api.Type
	binds [][]api.Bind
	exprs [][]api.Expr
	alts  [][]api.Alt
	texts [][]string
}

// add adds the lists of p.
func (m *memory) add(p api.Program) {
	x := Of(p)
	m.datas, m.binds = append(m.datas, p.Datas), append(m.binds, p.Binds)
	for _, d := range x.Datas {
		m.cons, m.texts = append(m.cons, d.Cons), append(m.texts, d.Vars)
	}
	for _, c := range x.Cons {
		m.types = append(m.types, c.Args)
	}
	for _, t := range x.Types {
		m.types = append(m.types, t.Kids)
	}
	for _, e := range x.Exprs {
		m.exprs, m.alts = append(m.exprs, e.Kids), append(m.alts, e.Alts)
	}
	for _, a := range x.Alts {
		m.texts = append(m.texts, a.Names)
	}
}

// Scribble writes into all lists of p, and into their spare room.
func Scribble(p api.Program) {
	var m memory
	m.add(p)
	scribble(m.datas, api.Data{Name: "no"})
	scribble(m.cons, api.Con{Name: "no"})
	scribble(m.types, api.Type{Kind: 77})
	scribble(m.binds, api.Bind{Name: "No"})
	scribble(m.exprs, api.Expr{Kind: 77})
	scribble(m.alts, api.Alt{Con: "no"})
	scribble(m.texts, "spoilt")
}

func scribble[T any](all [][]T, x T) {
	for _, l := range all {
		lists.Scribble(l, x)
	}
}

// Shared tells whether any two lists of these programs share memory, spare room too.
func Shared(l ...api.Program) bool {
	var m memory
	for _, p := range l {
		m.add(p)
	}
	return lists.Shared(m.datas) || lists.Shared(m.cons) || lists.Shared(m.types) || lists.Shared(m.binds) ||
		lists.Shared(m.exprs) || lists.Shared(m.alts) || lists.Shared(m.texts)
}
