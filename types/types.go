// Package types makes types that the tests of the other packages hand in, and tells what those ask of types.
package types

import (
	"slices"
	"strconv"
	"strings"

	"warp/api"
	"warp/lists"
	"warp/parse"
	"warp/progs"
)

// Var tells variable n.
func Var(n int) api.Type { return api.Type{Kind: api.YVar, N: n} }

// Con tells the type of that name with those Kids.
func Con(name string, kids ...api.Type) api.Type {
	return api.Type{Kind: api.YCon, Name: name, Kids: slices.Clone(kids)}
}

// To tells the type of functions from one to the other.
func To(from, to api.Type) api.Type { return Con("->", from, to) }

// Tuple tells the type of tuples of those.
func Tuple(kids ...api.Type) api.Type { return Con(",", kids...) }

// Vars tells the variables with those numbers.
func Vars(numbers ...int) []api.Type {
	var l []api.Type
	for _, n := range numbers {
		l = append(l, Var(n))
	}
	return l
}

// Nest tells t in n names of one Kid.
func Nest(n int, t api.Type) api.Type {
	for range n {
		t = Con("L", t)
	}
	return t
}

const known = 130 // variables that Of and Said know by their names

// Names tells the names of all variables that Of knows, from variable 0 on: a to z, then a1 to z1, ..
func Names() []string {
	var l []string
	for n := range known {
		name := "abcdefghijklmnopqrstuvwxyz"[n%26:][:1]
		if n >= 26 {
			name += strconv.Itoa(n / 26)
		}
		l = append(l, name)
	}
	return l
}

// Of tells the type that a text says, at most so deep as programs have types. Of a text that says none it panics, as a
// test is wrong then.
func Of(s string) api.Type {
	p, e, _ := parse.Parse("data D " + strings.Join(Names(), " ") + " = C (" + s + ");")
	if e != api.OK || slices.ContainsFunc(progs.Of(p).Types, func(t *api.Type) bool { return t.N < 0 }) {
		panic(s)
	}
	return p.Datas[0].Cons[0].Args[0]
}

// All tells the types that texts say, as Of does.
func All(texts ...string) []api.Type {
	var l []api.Type
	for _, s := range texts {
		l = append(l, Of(s))
	}
	return l
}

// held tells a program that has those types in it, in one list, which is new.
func held(l []api.Type) api.Program {
	return api.Program{Datas: []api.Data{{Cons: []api.Con{{Args: slices.Clone(l)}}}}}
}

// Told tells all that is in types as text: those that have one text are the same.
func Told(l ...api.Type) string { return progs.Told(held(l)) }

// Cut tells all that is in a type as text, cut where it is long.
func Cut(t api.Type) string {
	s := Told(t)
	return s[:min(len(s), 300)] + " of " + strconv.Itoa(len(s)) + " bytes"
}

// Nodes tells all nodes of t, each ahead of what is in it. Whoever writes into one of them changes t.
func Nodes(t *api.Type) []*api.Type {
	l := []*api.Type{t}
	for i := range t.Kids {
		l = append(l, Nodes(&t.Kids[i])...)
	}
	return l
}

// Texts tells all names in t.
func Texts(t api.Type) []string { return progs.Texts(held([]api.Type{t})) }

// Copy tells t in new memory.
func Copy(t api.Type) api.Type { return with(t, func(kids []api.Type) []api.Type { return kids }) }

// Roomy tells t in new memory, with spare room behind all Kids, where there are none, too.
func Roomy(t api.Type) api.Type {
	return with(t, func(kids []api.Type) []api.Type { return lists.Roomy(kids, Var(77)) })
}

// with tells t in new memory, with what of tells of all Kids.
func with(t api.Type, of func(kids []api.Type) []api.Type) api.Type {
	var kids []api.Type
	for _, kid := range t.Kids {
		kids = append(kids, with(kid, of))
	}
	t.Kids = of(kids)
	return t
}

// Scribble writes into all Kids within these types, and into their spare room.
func Scribble(l ...api.Type) { progs.Scribble(held(l)) }

// Shared tells whether any two lists within these types share memory, spare room too.
func Shared(l ...api.Type) bool { return progs.Shared(held(l)) }
