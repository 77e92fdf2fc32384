package types

import "warp/api"

// drawer draws types, by a function that tells numbers from 0 to below its argument.
type drawer struct {
	next func(int) int
	vars int
}

// Drawn tells a type that may be, at most so deep: next tells numbers from 0 to below its argument. Of its variables
// there are so many; if there are none, it has none.
func Drawn(next func(int) int, deep, vars int) api.Type {
	return drawer{next, vars}.typ(deep)
}

func (d drawer) typ(deep int) api.Type {
	if deep <= 1 || d.next(5) == 0 {
		return d.leaf()
	}
	switch d.next(5) {
	case 0, 1:
		return To(d.typ(deep-1), d.typ(deep-1))
	case 2:
		return Tuple(d.kids(2+d.next(d.next(7)+1), deep-1)...)
	}
	return Con(d.name(), d.kids(1+d.next(3), deep-1)...)
}

func (d drawer) leaf() api.Type {
	if d.vars > 0 && d.next(4) > 0 {
		return Var(d.next(d.vars))
	}
	return Con(d.name())
}

func (d drawer) name() string { return []string{"Int", "Bool", "L", "T", "X_1", "Aa9"}[d.next(6)] }

// kids tells n types at most so deep.
func (d drawer) kids(n, deep int) []api.Type {
	var l []api.Type
	for range n {
		l = append(l, d.typ(deep))
	}
	return l
}

// Changed tells t with one thing changed, which is drawn: it may be no type any more, or t as it was.
func Changed(next func(int) int, t api.Type) api.Type {
	t = Copy(t)
	l := Nodes(&t)
	at := l[next(len(l))]
	switch next(6) {
	case 0:
		at.Kind = []int{api.YVar, api.YCon, 0, 3, -1}[next(5)]
	case 1:
		at.N = []int{0, 1, 2, 26, api.MaxInt, api.MaxInt + 1, -1}[next(7)]
	case 2:
		at.Name = []string{"", "Int", "L", "int", "->", ",", "A'"}[next(7)]
	case 3:
		at.Kids = append(at.Kids, Var(next(3)))
	case 4:
		at.Kids = at.Kids[:next(len(at.Kids)+1)]
	case 5:
		*at = []api.Type{Var(next(3)), Con("Int"), {}, Con("T", Var(0))}[next(4)]
	}
	return t
}
