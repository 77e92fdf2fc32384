package data

import (
	"fmt"
	"slices"
	"testing"

	"warp/api"
	"warp/lists"
	"warp/plays"
)

// Drawn declarations: right ones, and those with some things changed.

// drawer draws declarations, by a function that tells numbers from 0 to below its argument.
type drawer struct {
	next  func(int) int
	datas []api.Data // those whose types may be drawn
}

func someNames() []string { return []string{"A", "B", "C", "D", "E", "F", "G", "H", "I", "J"} }

// pick tells n of l, in any order.
func pick(next func(int) int, l []string, n int) []string {
	l = slices.Clone(l)
	for i := range n {
		j := i + next(len(l)-i)
		l[i], l[j] = l[j], l[i]
	}
	return l[:n:n]
}

// right tells declarations that may be.
func right(next func(int) int) []api.Data {
	g := drawer{next: next}
	for _, name := range pick(next, someNames(), next(5)) {
		vars := pick(next, []string{"a", "b", "c", "d", "e"}, next(4))
		g.datas = append(g.datas, api.Data{Name: name, At: next(9), Vars: vars})
	}
	cons := pick(next, someNames(), 10)
	for i := range g.datas {
		d := &g.datas[i]
		for range next(min(4, len(cons)+1)) {
			args := g.types(next(4), len(d.Vars), 1+next(4))
			d.Cons = append(d.Cons, api.Con{Name: cons[0], At: next(9), Args: args})
			cons = cons[1:]
		}
	}
	return g.datas
}

// types tells n types of so many variables, at most so deep.
func (g drawer) types(n, vars, deep int) []api.Type {
	var l []api.Type
	for range n {
		l = append(l, g.typ(vars, deep))
	}
	return l
}

func (g drawer) typ(vars, deep int) api.Type {
	switch kind := g.next(6); {
	case kind <= 1 && vars > 0:
		return variable(g.next(vars))
	case deep <= 1 || kind <= 2:
		return typ([]string{"Int", "Bool"}[g.next(2)])
	case kind == 3:
		return typ("->", g.types(2, vars, deep-1)...)
	case kind == 4:
		return typ(",", g.types(2+g.next(g.next(7)+1), vars, deep-1)...)
	}
	d := g.datas[g.next(len(g.datas))]
	return typ(d.Name, g.types(len(d.Vars), vars, deep-1)...)
}

// nodes tells all types in l, each where it stands.
func nodes(l []api.Data) []*api.Type {
	var all []*api.Type
	var add func(l []api.Type)
	add = func(l []api.Type) {
		for i := range l {
			all = append(all, &l[i])
			add(l[i].Kids)
		}
	}
	for _, d := range l {
		for _, c := range d.Cons {
			add(c.Args)
		}
	}
	return all
}

// change changes one thing of l, if it has such a thing.
func change(next func(int) int, l []api.Data) {
	if len(l) == 0 {
		return
	}
	d := &l[next(len(l))]
	name := append(someNames(), "Int", "Bool", "->", ",", "")[next(15)]
	switch next(4) {
	case 0:
		d.Name = name
	case 1:
		d.Vars = append(d.Vars, []string{"a", "b", "c", "d", "e", "f"}[next(6)])
	case 2:
		if len(d.Cons) > 0 {
			d.Cons[next(len(d.Cons))].Name = name
		}
	case 3:
		if all := nodes(l); len(all) > 0 {
			changeType(next, all[next(len(all))], name)
		}
	}
}

func changeType(next func(int) int, y *api.Type, name string) {
	switch next(5) {
	case 0:
		y.Kind = next(4)
	case 1:
		y.N = next(6) - 2
	case 2:
		y.Name = name
	case 3:
		y.Kids = y.Kids[:next(len(y.Kids)+1)]
	case 4:
		y.Kids = append(y.Kids, typ("Int"))
	}
}

func changed(next func(int) int, times int) []api.Data {
	l := right(next)
	for range times {
		change(next, l)
	}
	return l
}

// firstWrong tells the place of the first that may not be, word by word as the chapter has it: each Data, each Con is
// held against each one ahead.
func firstWrong(l []api.Data) place {
	var cons []string
	for i, d := range l {
		if d.Name == "Int" || d.Name == "Bool" || slices.ContainsFunc(l[:i], isNamed(d.Name)) {
			return place{i, -1}
		}
		for j, v := range d.Vars {
			if slices.Contains(d.Vars[:j], v) {
				return place{i, -1}
			}
		}
		for j, c := range d.Cons {
			if slices.Contains(cons, c.Name) || slices.ContainsFunc(c.Args, func(y api.Type) bool {
				return isWrong(y, l, d.Vars)
			}) {
				return place{i, j}
			}
			cons = append(cons, c.Name)
		}
	}
	return none
}

func isNamed(name string) func(api.Data) bool {
	return func(d api.Data) bool { return d.Name == name }
}

func isWrong(y api.Type, l []api.Data, vars []string) bool {
	for _, kid := range y.Kids {
		if isWrong(kid, l, vars) {
			return true
		}
	}
	n := len(y.Kids)
	switch {
	case y.Kind == api.YVar:
		return y.N < 0 || y.N >= len(vars)
	case y.Kind != api.YCon:
		return true
	case y.Name == "Int" || y.Name == "Bool":
		return n != 0
	case y.Name == "->":
		return n != 2
	case y.Name == ",":
		return n < 2 || n > 8
	}
	i := slices.IndexFunc(l, isNamed(y.Name))
	return i < 0 || n != len(l[i].Vars)
}

func TestDrawnDatas(t *testing.T) {
	next, seen := plays.Below(121), map[string]int{}
	for i := range 40000 {
		l := changed(next, i%4)
		p := firstWrong(l)
		checkOnce(t, l, p)
		seen[fmt.Sprint(i%4, p != none, p.con >= 0)]++
		if i%4 == 0 && p != none {
			t.Errorf("the test itself is wrong: %s", told(l))
		}
		if t.Failed() {
			t.Fatalf("list %d", i)
		}
	}
	for _, s := range []string{"0 false false", "1 false false", "1 true false", "1 true true", "3 false false",
		"3 true false", "3 true true"} {
		if seen[s] < 500 {
			t.Errorf("%s: %d times", s, seen[s])
		}
	}
}

// TestSmallTypes holds types of at most three nodes, of some names and numbers, against the chapter.
func TestSmallTypes(t *testing.T) {
	var leaves []api.Type
	for kind := range 4 {
		for _, name := range []string{"", "Int", "Bool", "->", ",", "D", "E", "Q"} {
			for n := -1; n < 3; n++ {
				leaves = append(leaves, api.Type{Kind: kind, Name: name, N: n})
			}
		}
	}
	check := func(y api.Type) {
		l := []api.Data{declared("D", "", "X"), one("A", "a b", y), declared("E", "a", "Y")}
		checkOnce(t, l, firstWrong(l))
	}
	for _, outer := range leaves {
		check(outer)
		if outer.N > 0 {
			continue
		}
		for _, kid := range leaves {
			outer.Kids = []api.Type{kid}
			check(outer)
			for _, last := range []api.Type{variable(1), typ("Int"), variable(2), typ("E")} {
				outer.Kids = []api.Type{kid, last}
				check(outer)
				outer.Kids = []api.Type{last, kid}
				check(outer)
			}
		}
	}
}

// Promise 12.2: other orders.

func TestEachOrder(t *testing.T) {
	l := parsed(t, `data A = X B (L A) | Y (L (L Int)) A; data B = Z A | W (P B (L A)) | V;
		data L a = N | C a (L a) | M (P a a); data P a b = Q (a, b) (P b a -> A);`)
	checkOnce(t, l, none)
	count := 0
	lists.Orders(l, func(l []api.Data) {
		checkOnce(t, l, none)
		for i, d := range l {
			l := slices.Clone(l)
			lists.Orders(d.Cons, func(cons []api.Con) {
				l[i].Cons = cons
				checkOnce(t, l, none)
				count++
			})
		}
	})
	if want := 24 * (2 + 6 + 6 + 1); count != want {
		t.Errorf("the test itself is wrong: %d orders, not %d", count, want)
	}
}

func TestDrawnOrders(t *testing.T) {
	next := plays.Below(123)
	for range 5000 {
		l := right(next)
		for range 5 {
			lists.Shuffle(next, l)
			for _, d := range l {
				lists.Shuffle(next, d.Cons)
			}
			checkOnce(t, l, none)
		}
	}
}

// What is wrong is wrong in each order.
func TestWrongInEachOrder(t *testing.T) {
	next := plays.Below(124)
	for range 2000 {
		l := changed(next, 1)
		was := firstWrong(l) != none
		lists.Orders(l, func(l []api.Data) {
			p := firstWrong(l)
			checkOnce(t, l, p)
			if (p != none) != was {
				t.Fatalf("%s: another order is %v", told(l), p)
			}
		})
	}
}
