package refs

import (
	"fmt"
	"slices"
	"strings"
	"testing"

	"warp/api"
	"warp/lists"
	"warp/plays"
)

// Promises 14.1, of Graph, and 14.2.

func TestNoBinds(t *testing.T) {
	checkGraph(t, nil, nil)
	checkGraph(t, []api.Bind{}, nil)
	checkGraphs(t, [][2]string{{"", ""}, {"data A = B;", ""}})
}

func TestWhatOneRefersTo(t *testing.T) {
	checkGraphs(t, [][2]string{
		// Nothing, itself, those ahead, those behind.
		{"let f = 1;", ";"}, {"let f = 1; let g = C; let h = \\x -> x;", ";;;"}, {"let f = f;", "0;"},
		{"let f x = f x;", "0;"},
		{"let f = 1; let g = g;", ";1;"}, {"let f = 1; let g = f;", ";0;"}, {"let f = g; let g = 1;", "1;;"},
		{"let f = g; let g = f;", "1;0;"}, {"let f = f; let g = g;", "0;1;"},
		{"let f = 1; let g = 2; let h = f;", ";;0;"}, {"let f = h; let g = 1; let h = 2;", "2;;;"},
		{"let f = g; let g = h; let h = f;", "1;2;0;"}, {"let f = h; let g = f; let h = g;", "2;0;1;"},
		// One twice, several in another order than theirs.
		{"let f = f f;", "0;"}, {"let f = 1; let g = f f f;", ";0;"}, {"let f = (g, f, g, f); let g = 1;", "0 1;;"},
		{"let f = 1; let g = (f, g, h, f); let h = \\f -> f;", ";0 1 2;;"}, {"let f = g f; let g = f g;", "0 1;0 1;"},
		{"let f = h g; let g = h f; let h = g f;", "1 2;0 2;0 1;"},
		{"let f = h g f; let g = 1; let h = 2;", "0 1 2;;;"},
		{"let a = c b; let b = z; let c = \\x -> b a;", "1 2;;0 1;"},
		{"let f = 1; let g = 2; let h = h g f;", ";;0 1 2;"},
		// A name that no Bind has, a Con.
		{"let f = x;", ";"}, {"let f = x f y; let g = y;", "0;;"}, {"let f = F g; let g = F;", "1;;"},
		{"let f = ff; let ff = fff; let g = gg;", "1;;;"}, {"data F = G; let f = F G;", ";"},
		{"let f = x g; let g = y x f; let x2 = 1;", "1;0;;"}})
}

func TestNamesBoundWithin(t *testing.T) {
	checkGraphs(t, [][2]string{{"let f = \\f -> f;", ";"}, {"let f f = f;", ";"}, {"let f = let f = 1 in f;", ";"},
		{"let f = let f = f in f;", "0;"}, {"let f = case 1 of {C f -> f};", ";"},
		{"let f = case f of {C f -> f};", "0;"},
		{"let f = \\g -> g; let g = \\f -> f;", ";;"}, {"let f = \\g -> f; let g = \\f -> g;", "0;1;"},
		{"let f g = g h f; let g h = f g h; let h = g;", "0 2;0 1;1;"}, {"let f = (\\g -> g) g; let g = 1;", "1;;"},
		{"let f = (g, \\g -> g); let g = (\\f -> f, f);", "1;0;"},
		{"let f = let g = g in g; let g = let f = 1 in f;", "1;;"},
		{"let f = case h of {C g -> g; D -> h}; let g = 1; let h = case 1 of {C g -> g; D -> g};", "2;;1;"},
		{"let f = (\\f -> (\\f -> f) f, g); let g = (\\f -> (\\f -> f) f, f);", "1;0;"},
		{"let x = \\x -> x; let y = \\x -> y x; let z = x y z; let u = (\\x -> x) x;", ";1;0 1 2;0;"}})
}

// Of some of one name the first counts, wherever they stand.
func TestBindsOfOneName(t *testing.T) {
	checkGraphs(t, [][2]string{{"let f = f; let f = f;", "0;0;"}, {"let f = 1; let f = f; let f = f f;", ";0;0;"},
		{"let f = g; let g = 1; let g = f;", "1;;0;"}, {"let g = 1; let f = g; let g = 2;", ";0;;"},
		{"let g = 1; let g = 2; let f = g;", ";;0;"}, {"let g = f; let f = 1; let f = 2; let f = g;", "1;;;0;"},
		{"let f = g; let g = f; let f = g; let g = f;", "1;0;1;0;"},
		{"let f = h g f; let g = 1; let g = h; let h = 2; let f = 3;", "0 1 3;;3;;;"},
		{"let f = \\f -> f; let f = g; let g = f g;", ";2;0 2;"},
		{"let f = 1; let g = f; let f = g; let h = f g;", ";0;1;0 1;"}})
	const n = 6
	lists.Each(n, []int{0, 1, 2}, func(l []int) {
		b := make([]api.Bind, n)
		for i, x := range l {
			b[i] = api.Bind{Name: fmt.Sprint("f", x), Body: app(ref(fmt.Sprint("f", i%3)), ref(fmt.Sprint("f", i%2)))}
		}
		var want [][]int
		for i := range n {
			var to []int
			for _, x := range []int{i % 3, i % 2} {
				if at := slices.Index(l, x); at >= 0 && !slices.Contains(to, at) {
					to = append(to, at)
				}
			}
			slices.Sort(to)
			want = append(want, to)
		}
		checkGraph(t, b, want)
	})
}

// Names of all sorts are names of Binds; the empty one, too.
func TestBindsOfAllSorts(t *testing.T) {
	names := []string{"", " ", "\x00", "x", "x ", "X", "é", "e\u0301", "\xff", "\xfe", "let", strings.Repeat("x", 1000)}
	var l []api.Bind
	for i, name := range names {
		l = append(l, api.Bind{Name: name, At: -i, Body: node(api.ETuple, name, refs(names[:i]...)...)})
	}
	var want [][]int
	for i := range names {
		want = append(want, lists.Span(0, i-1))
	}
	checkGraph(t, l, want)
	for i := range l {
		l[i].Body = node(api.ETuple, "", refs(names[len(names)-i-1], "y", names[i])...)
		want[i] = slices.Compact(slices.Sorted(slices.Values([]int{i, len(names) - i - 1})))
	}
	checkGraph(t, l, want)
	for i := range l {
		l[i].Body, want[i] = lam(names[i], app(ref(names[i]), node(api.ECon, names[0]))), nil
	}
	checkGraph(t, l, want)
	checkGraph(t, make([]api.Bind, 5), make([][]int, 5))
}

// Each set of edges among three Binds, whatever the order in which the names stand in the Bodies.
func TestEachGraph(t *testing.T) {
	names, next := []string{"f", "g", "h"}, plays.Below(141)
	lists.Each(9, []int{0, 1}, func(edges []int) {
		var l []api.Bind
		var want [][]int
		for i, name := range names {
			var used []string
			var to []int
			for j, other := range names {
				if edges[3*i+j] == 1 {
					used, to = append(used, other, other), append(to, j)
				}
			}
			lists.Shuffle(next, used)
			l, want = append(l, api.Bind{Name: name, Body: node(api.ETuple, "", refs(used...)...)}), append(want, to)
		}
		checkGraph(t, l, want)
	})
}

// renamed tells where the Binds of l stand when they are put in that order.
func renamed(g [][]int, order []int) [][]int {
	var l [][]int
	for _, i := range order {
		var to []int
		for _, x := range g[i] {
			to = append(to, slices.Index(order, x))
		}
		slices.Sort(to)
		l = append(l, to)
	}
	return l
}

// In another order they refer to the same.
func TestEachOrder(t *testing.T) {
	for _, src := range []string{"let f = g; let g = h i; let h = i f g h; let i = 1;",
		"let f g = f g h; let g = let h = i in h g f; let h = case f of {C i -> i h; D -> i}; let i = i (\\i -> h);"} {
		l := binds(t, src)
		g, count := plainGraph(l), 0
		lists.Orders(lists.Span(0, len(l)-1), func(order []int) {
			var other []api.Bind
			for _, i := range order {
				other = append(other, l[i])
			}
			checkGraph(t, other, renamed(g, order))
			count++
		})
		if count != 24 {
			t.Errorf("the test itself is wrong: %d orders", count)
		}
	}
}

// Where a name is bound around all of a Body, its Bind is not referred to (14.2).
func TestNamesBoundAroundBodies(t *testing.T) {
	next := plays.Below(142)
	for range 300 {
		l := drawnBinds(next)
		for i, name := range []string{"x", "y", "z", "f", "q"} {
			b := slices.Clone(l)
			for j := range b {
				around := binding(name, b[j].Body)
				b[j].Body = around[(i+j)%len(around)]
			}
			want := plainGraph(l)
			at := slices.IndexFunc(l, func(b api.Bind) bool { return b.Name == name })
			for j := range want {
				want[j] = slices.DeleteFunc(want[j], func(x int) bool { return x == at })
			}
			checkGraph(t, b, want)
		}
	}
}
